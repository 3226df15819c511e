/- One call that the document's room is asked. -/
import Derived.Test.YtpnojoldcfghfaaExV
import Derived.IntWalk
namespace Go.Proofs.Ytpnojoldcfghfaa
open Go.RowKit Go.Sort

/-- The document's room in the midst of a call: its boxes, its places. -/
structure Dob (w : World) (p d n : Nat) (ao : Option Addr) (cap : Nat) (F : Int) (K A N : Int) (B : Nat → Bool) (W : World) : Prop where
  ref : Ref W p d n ao cap F B
  apart : Apart p d w W
  size : w.heap.size + 2 ≤ W.heap.size
  a0 : W.cell? ⟨w.heap.size, 0, none⟩ = some (.int .i64 K)
  a1 : W.cell? ⟨w.heap.size, 1, none⟩ = some (.int .i64 A)
  a2 : W.cell? ⟨w.heap.size, 2, none⟩ = some (.int .i64 N)
  t0 : W.cell? ⟨w.heap.size + 1, 0, none⟩ = some (.int .i64 0)
  t1 : W.cell? ⟨w.heap.size + 1, 1, none⟩ = some (.int .i64 0)
  z0 : W.frozen? ⟨w.heap.size + 1, 0, none⟩ = false
  z1 : W.frozen? ⟨w.heap.size + 1, 1, none⟩ = false
  lp : p < w.heap.size
  ld : d < w.heap.size
section
variable {w W W' : World} {p d n cap : Nat} {ao : Option Addr} {F K A N : Int} {B : Nat → Bool}
theorem dob_start (h : Ref w p d n ao cap F B) : Dob w p d n ao cap F K A N B ((w.alloc (.cells #[.int .i64 K, .int .i64 A, .int .i64 N] 35)).alloc (.cells #[.int .i64 0, .int .i64 0] 32)) := by
  have hb : Below w.heap.size w ((w.alloc (.cells #[.int .i64 K, .int .i64 A, .int .i64 N] 35)).alloc (.cells #[.int .i64 0, .int .i64 0] 32)) := ((Below.refl _ _).alloc (Nat.le_refl _) _).alloc (by simp) _
  exact ⟨h.later hb, Apart.of_below hb, by simp, by simp [go_sem], by simp [go_sem], by simp [go_sem], by simp [go_sem], by simp [go_sem], by simp [go_sem], by simp [go_sem], h.lp, h.ld⟩
theorem Dob.later (h : Dob w p d n ao cap F K A N B W) (hb : Below W.heap.size W W') : Dob w p d n ao cap F K A N B W' :=
  have hs := h.size
  ⟨h.ref.later hb, h.apart.thenB hb, Nat.le_trans h.size hb.size, Go.Proofs.Ytpnojoldcfghfaa.later hb h.a0, Go.Proofs.Ytpnojoldcfghfaa.later hb h.a1, Go.Proofs.Ytpnojoldcfghfaa.later hb h.a2, Go.Proofs.Ytpnojoldcfghfaa.later hb h.t0, Go.Proofs.Ytpnojoldcfghfaa.later hb h.t1,
    (hb.frozen (p := ⟨w.heap.size + 1, 0, none⟩) (by simp only; omega)).trans h.z0, (hb.frozen (p := ⟨w.heap.size + 1, 1, none⟩) (by simp only; omega)).trans h.z1, h.lp, h.ld⟩
theorem Dob.put (h : Dob w p d n ao cap F K A N B W) (i : Nat) (v : Bool) (hi : i < n) : Dob w p d n ao cap F K A N (fun k => if k = i then v else B k) (W.setCell ⟨d, i, none⟩ (.bool v)) := by
  have ld := h.ld
  have e : ∀ {j x}, w.heap.size ≤ x → (⟨d, i, none⟩ : Addr) ≠ ⟨x, j, none⟩ := fun hx e => by have := congrArg Addr.block e; simp at this; omega
  exact ⟨h.ref.put i v hi, h.apart.trans (Apart.setD p d i (.bool v) W), by simpa [World.setCell] using h.size, (World.cell?_setCell_other _ _ _ _ (e (Nat.le_refl _))).trans h.a0, (World.cell?_setCell_other _ _ _ _ (e (Nat.le_refl _))).trans h.a1, (World.cell?_setCell_other _ _ _ _ (e (Nat.le_refl _))).trans h.a2,
    (World.cell?_setCell_other _ _ _ _ (e (Nat.le_succ _))).trans h.t0, (World.cell?_setCell_other _ _ _ _ (e (Nat.le_succ _))).trans h.t1, (World.frozen?_setCell _ _ _ _).trans h.z0, (World.frozen?_setCell _ _ _ _).trans h.z1, h.lp, h.ld⟩
theorem Dob.cast (h : Dob w p d n ao cap F K A N B W) {B' : Nat → Bool} (e : ∀ k, k < n → B k = B' k) : Dob w p d n ao cap F K A N B' W :=
  ⟨h.ref.cast e, h.apart, h.size, h.a0, h.a1, h.a2, h.t0, h.t1, h.z0, h.z1, h.lp, h.ld⟩
/-- What is told is written. -/
theorem Dob.told (h : Dob w p d n ao cap F K A N B W) (x y : Int) :
    Ref ((W.setCell ⟨w.heap.size + 1, 0, none⟩ (.int .i64 x)).setCell ⟨w.heap.size + 1, 1, none⟩ (.int .i64 y)) p d n ao cap F B ∧ Apart p d w ((W.setCell ⟨w.heap.size + 1, 0, none⟩ (.int .i64 x)).setCell ⟨w.heap.size + 1, 1, none⟩ (.int .i64 y)) ∧
    ((W.setCell ⟨w.heap.size + 1, 0, none⟩ (.int .i64 x)).setCell ⟨w.heap.size + 1, 1, none⟩ (.int .i64 y)).cell? ⟨w.heap.size + 1, 0, none⟩ = some (.int .i64 x) ∧ ((W.setCell ⟨w.heap.size + 1, 0, none⟩ (.int .i64 x)).setCell ⟨w.heap.size + 1, 1, none⟩ (.int .i64 y)).cell? ⟨w.heap.size + 1, 1, none⟩ = some (.int .i64 y) := by
  have lp := h.lp
  have ld := h.ld
  refine ⟨h.ref.move ((Below.heap_setCell _ _ _ _ (by simp; omega)).trans (Below.heap_setCell _ _ _ _ (by simp; omega))) ((Below.heap_setCell _ _ _ _ (by simp; omega)).trans (Below.heap_setCell _ _ _ _ (by simp; omega))) (by simp [World.setCell]), ?_, ?_, ?_⟩
  · exact h.apart.then (((Below.refl _ _).setCell (by simp) _).setCell (by simp) _)
  · exact (World.cell?_setCell_other _ _ _ _ (by simp)).trans (World.cell?_setCell_same _ _ _ h.t0)
  · exact World.cell?_setCell_same _ _ _ ((World.cell?_setCell_other _ _ _ _ (by simp)).trans h.t1)
end

/-- What a call leaves of the document's room. -/
def Left (w : World) (p d n : Nat) (ao : Option Addr) (cap : Nat) (F : Int) (B : Nat → Bool) (x y : Int) (e : Ending) (w' : World) : Prop :=
  e = .returned (.agg #[.int .i64 x, .int .i64 y]) ∧ Ref w' p d n ao cap F B ∧ Apart p d w w'

set_option maxHeartbeats 8000000 in
set_option maxRecDepth 100000 in
theorem rtake_low (p d n cap : Nat) (ao : Option Addr) (F K A N : Int) (B : Nat → Bool) (w : World) (hR : Ref w p d n ao cap F B) (hk : K = 0) (h1 : N < 1) :
    Calls Try.prog 11 #[.pointer (some ⟨p, 0, none⟩), .agg #[.int .i64 K, .int .i64 A, .int .i64 N]] w (Left w p d n ao cap F (B) (0) (1)) := by
  have hb : Below w.heap.size w ((w.alloc (.cells #[.int .i64 0, .int .i64 A, .int .i64 N] 35)).alloc (.cells #[.int .i64 0, .int .i64 1] 32)) := ((Below.refl _ _).alloc (Nat.le_refl _) _).alloc (by simp) _
  have HR := Lib.hid (hR.later hb)
  have HB := Lib.hid hb
  clear hR hb
  subst hk
  go_enter Try.func11, Try.ntmps11
  go_wp2_with fail
  refine bodyPost_ret (v := .agg #[.int .i64 0, .int .i64 1]) (by simp [results, Try.results11, go_sem]) rfl ⟨rfl, HR.out, Apart.of_below HB.out⟩

set_option maxHeartbeats 8000000 in
set_option maxRecDepth 100000 in
theorem rgive_1 (p d n cap : Nat) (ao : Option Addr) (F K A N : Int) (B : Nat → Bool) (w : World) (hR : Ref w p d n ao cap F B) (hk : ¬ K = 0)  (hc : N < 1) :
    Calls Try.prog 11 #[.pointer (some ⟨p, 0, none⟩), .agg #[.int .i64 K, .int .i64 A, .int .i64 N]] w (Left w p d n ao cap F (B) (0) (1)) := by
  have HD := Lib.hid (dob_start (K := K) (A := A) (N := N) hR)
  clear hR
  have a0 := HD.out.a0
  have a1 := HD.out.a1
  have a2 := HD.out.a2
  have t0 := HD.out.t0
  have t1 := HD.out.t1
  have z0 := HD.out.z0
  have z1 := HD.out.z1
  have q0 := HD.out.ref.first
  have q1 := HD.out.ref.free
  have b1 : decide (N < 1) = true := by simpa using hc
  go_enter Try.func11, Try.ntmps11
  go_wp2_with fail
  go_quiet (fail)
  replace HD : Hid (Dob w p d n ao cap F K A N B (((w.alloc (.cells #[.int .i64 K, .int .i64 A, .int .i64 N] 35)).alloc (.cells #[.int .i64 0, .int .i64 0] 32)).drewN nq)) := HD.out.later ⟨rfl, rfl, rfl, Nat.le_refl _, fun _ _ => rfl⟩
  go_wp2_with fail
  obtain ⟨r1, r2, r3, r4⟩ := HD.out.told (0) (1)
  generalize ((_ : World).setCell ⟨w.heap.size + 1, 0, none⟩ (.int .i64 (0))).setCell ⟨w.heap.size + 1, 1, none⟩ (.int .i64 (1)) = w9 at r1 r2 r3 r4 ⊢
  refine bodyPost_ret (v := .agg #[.int .i64 (0), .int .i64 (1)]) (by simp [results, Try.results11, go_sem, r3, r4]) rfl ⟨rfl, r1, r2⟩

set_option maxHeartbeats 8000000 in
set_option maxRecDepth 100000 in
theorem rgive_2 (p d n cap : Nat) (ao : Option Addr) (F K A N : Int) (B : Nat → Bool) (w : World) (hR : Ref w p d n ao cap F B) (hk : ¬ K = 0) (g0 : 1 ≤ N) (hc : (n : Int) < N) :
    Calls Try.prog 11 #[.pointer (some ⟨p, 0, none⟩), .agg #[.int .i64 K, .int .i64 A, .int .i64 N]] w (Left w p d n ao cap F (B) (0) (1)) := by
  have HD := Lib.hid (dob_start (K := K) (A := A) (N := N) hR)
  clear hR
  have a0 := HD.out.a0
  have a1 := HD.out.a1
  have a2 := HD.out.a2
  have t0 := HD.out.t0
  have t1 := HD.out.t1
  have z0 := HD.out.z0
  have z1 := HD.out.z1
  have q0 := HD.out.ref.first
  have q1 := HD.out.ref.free
  have b1 : decide (N < 1) = false := by simp; omega
  have b2 : decide ((n : Int) < N) = true := by simpa using hc
  go_enter Try.func11, Try.ntmps11
  go_wp2_with fail
  go_quiet (fail)
  replace HD : Hid (Dob w p d n ao cap F K A N B (((w.alloc (.cells #[.int .i64 K, .int .i64 A, .int .i64 N] 35)).alloc (.cells #[.int .i64 0, .int .i64 0] 32)).drewN nq)) := HD.out.later ⟨rfl, rfl, rfl, Nat.le_refl _, fun _ _ => rfl⟩
  go_wp2_with fail
  obtain ⟨r1, r2, r3, r4⟩ := HD.out.told (0) (1)
  generalize ((_ : World).setCell ⟨w.heap.size + 1, 0, none⟩ (.int .i64 (0))).setCell ⟨w.heap.size + 1, 1, none⟩ (.int .i64 (1)) = w9 at r1 r2 r3 r4 ⊢
  refine bodyPost_ret (v := .agg #[.int .i64 (0), .int .i64 (1)]) (by simp [results, Try.results11, go_sem, r3, r4]) rfl ⟨rfl, r1, r2⟩

set_option maxHeartbeats 8000000 in
set_option maxRecDepth 100000 in
theorem rgive_3 (p d n cap : Nat) (ao : Option Addr) (F K A N : Int) (B : Nat → Bool) (w : World) (hR : Ref w p d n ao cap F B) (hk : ¬ K = 0) (g0 : 1 ≤ N) (g1 : N ≤ (n : Int)) (hc : A < F) :
    Calls Try.prog 11 #[.pointer (some ⟨p, 0, none⟩), .agg #[.int .i64 K, .int .i64 A, .int .i64 N]] w (Left w p d n ao cap F (B) (0) (1)) := by
  have HD := Lib.hid (dob_start (K := K) (A := A) (N := N) hR)
  clear hR
  have a0 := HD.out.a0
  have a1 := HD.out.a1
  have a2 := HD.out.a2
  have t0 := HD.out.t0
  have t1 := HD.out.t1
  have z0 := HD.out.z0
  have z1 := HD.out.z1
  have q0 := HD.out.ref.first
  have q1 := HD.out.ref.free
  have b1 : decide (N < 1) = false := by simp; omega
  have b2 : decide ((n : Int) < N) = false := by simp; omega
  have b3 : decide (A < F) = true := by simpa using hc
  go_enter Try.func11, Try.ntmps11
  go_wp2_with fail
  go_quiet (fail)
  replace HD : Hid (Dob w p d n ao cap F K A N B (((w.alloc (.cells #[.int .i64 K, .int .i64 A, .int .i64 N] 35)).alloc (.cells #[.int .i64 0, .int .i64 0] 32)).drewN nq)) := HD.out.later ⟨rfl, rfl, rfl, Nat.le_refl _, fun _ _ => rfl⟩
  go_wp2_with fail
  obtain ⟨r1, r2, r3, r4⟩ := HD.out.told (0) (1)
  generalize ((_ : World).setCell ⟨w.heap.size + 1, 0, none⟩ (.int .i64 (0))).setCell ⟨w.heap.size + 1, 1, none⟩ (.int .i64 (1)) = w9 at r1 r2 r3 r4 ⊢
  refine bodyPost_ret (v := .agg #[.int .i64 (0), .int .i64 (1)]) (by simp [results, Try.results11, go_sem, r3, r4]) rfl ⟨rfl, r1, r2⟩

set_option maxHeartbeats 8000000 in
set_option maxRecDepth 100000 in
theorem rgive_4 (p d n cap : Nat) (ao : Option Addr) (F K A N : Int) (B : Nat → Bool) (w : World) (hR : Ref w p d n ao cap F B) (hk : ¬ K = 0) (ha : A ≤ 9223372036854775807) (f0 : 0 ≤ F) (g0 : 1 ≤ N) (g1 : N ≤ (n : Int)) (g2 : F ≤ A) (hc : (n : Int) - N < A - F) :
    Calls Try.prog 11 #[.pointer (some ⟨p, 0, none⟩), .agg #[.int .i64 K, .int .i64 A, .int .i64 N]] w (Left w p d n ao cap F (B) (0) (1)) := by
  have HD := Lib.hid (dob_start (K := K) (A := A) (N := N) hR)
  clear hR
  have a0 := HD.out.a0
  have a1 := HD.out.a1
  have a2 := HD.out.a2
  have t0 := HD.out.t0
  have t1 := HD.out.t1
  have z0 := HD.out.z0
  have z1 := HD.out.z1
  have q0 := HD.out.ref.first
  have q1 := HD.out.ref.free
  have b1 : decide (N < 1) = false := by simp; omega
  have b2 : decide ((n : Int) < N) = false := by simp; omega
  have b3 : decide (A < F) = false := by simp; omega
  have b4 : decide ((n : Int) - N < A - F) = true := by simpa using hc
  have w1 : IntKind.i64.wrap (A - F) = A - F := IntWalk.i64_in _ (by omega)
  have w2 : IntKind.i64.wrap ((n : Int) - N) = (n : Int) - N := IntWalk.i64_in _ (by omega)
  go_enter Try.func11, Try.ntmps11
  go_wp2_with fail
  go_quiet (fail)
  replace HD : Hid (Dob w p d n ao cap F K A N B (((w.alloc (.cells #[.int .i64 K, .int .i64 A, .int .i64 N] 35)).alloc (.cells #[.int .i64 0, .int .i64 0] 32)).drewN nq)) := HD.out.later ⟨rfl, rfl, rfl, Nat.le_refl _, fun _ _ => rfl⟩
  go_wp2_with fail
  obtain ⟨r1, r2, r3, r4⟩ := HD.out.told (0) (1)
  generalize ((_ : World).setCell ⟨w.heap.size + 1, 0, none⟩ (.int .i64 (0))).setCell ⟨w.heap.size + 1, 1, none⟩ (.int .i64 (1)) = w9 at r1 r2 r3 r4 ⊢
  refine bodyPost_ret (v := .agg #[.int .i64 (0), .int .i64 (1)]) (by simp [results, Try.results11, go_sem, r3, r4]) rfl ⟨rfl, r1, r2⟩

set_option maxHeartbeats 8000000 in
set_option maxRecDepth 100000 in
theorem rtake_full (p d n cap : Nat) (ao : Option Addr) (F K A N : Int) (B : Nat → Bool) (w : World) (hR : Ref w p d n ao cap F B) (hk : K = 0) (h1 : 1 ≤ N) (hn : n ≤ 300) (f0 : 0 ≤ F) (f1 : F ≤ 65536) {L : List (Int × Int)} (hG : Good F (F + n) L) (hLk : Link F n B L) (hno : ∀ x, x ∈ L → x.2 < N) :
    Calls Try.prog 11 #[.pointer (some ⟨p, 0, none⟩), .agg #[.int .i64 K, .int .i64 A, .int .i64 N]] w (Left w p d n ao cap F (B) (0) (2)) := by
  have HD := Lib.hid (dob_start (K := K) (A := A) (N := N) hR)
  clear hR
  have a0 := HD.out.a0
  have a1 := HD.out.a1
  have a2 := HD.out.a2
  have t0 := HD.out.t0
  have t1 := HD.out.t1
  have z0 := HD.out.z0
  have z1 := HD.out.z1
  have q0 := HD.out.ref.first
  have q1 := HD.out.ref.free
  have b1 : decide (N < 1) = false := by simp; omega
  subst hk
  go_enter Try.func11, Try.ntmps11
  go_wp2_with fail
  refine (rlist p d n cap ao F B _ HD.out.ref hn f0 f1).mono ?_
  rintro e w2 ⟨R, ro, c, rfl, hL, hRd, hb, hnew⟩
  obtain rfl := reads_eq hRd hG hLk
  replace HD := Lib.hid (HD.out.later hb)
  have HL := Lib.hid hL
  have hsm := good_length hG (by omega)
  obtain ⟨m, hm⟩ : ∃ m, R.length = m := ⟨_, rfl⟩
  rw [hm] at hsm ⊢
  have HM := Lib.hid hm
  have HG := Lib.hid hG
  have HNW := Lib.hid hnew
  clear hb hL hRd hm hG hLk hnew a0 a1 a2 t0 t1 z0 z1 q0 q1
  go_wp2_with fail
  have hlo : ∀ k, k < m → ∃ x, R[k]? = some x ∧ x.2 < N := fun k hk => ⟨R[k]'(by have := HM.out; omega), List.getElem?_eq_getElem _, hno _ (List.getElem_mem _)⟩
  have HLO := Lib.hid hlo
  clear hlo hno
  go_loopw [6, 7] (fun s6 _ wr => ∃ k : Nat, k ≤ m ∧ s6 = .int .i64 k ∧ Below w2.heap.size w2 wr) (fun s6 _ _ => m - (intOf s6).toNat)
  case atStart => exact ⟨0, Nat.zero_le _, rfl, Below.refl _ _⟩
  case round =>
    obtain ⟨k, hk, rfl, hB⟩ := hrel
    replace HD := Lib.hid (HD.out.later hB)
    have a2 := HD.out.a2
    by_cases hlt : k < m
    · have hkm : (k : Int) < (m : Int) := by omega
      obtain ⟨b, rfl, hbl, hcell⟩ := HL.out (by have := HM.out; omega)
      obtain ⟨x, hx, hxN⟩ := HLO.out k hlt
      obtain ⟨c0, c1⟩ := hcell k x hx
      replace c0 := (hB.cell (p := ⟨b, k * 2, none⟩) hbl).trans c0
      replace c1 := (hB.cell (p := ⟨b, k * 2 + 1, none⟩) hbl).trans c1
      have b2 : decide (N ≤ x.2) = false := by simp; omega
      have HB := Lib.hid hB
      clear hx hcell hB hxN
      obtain ⟨xa, xk⟩ := x
      simp only at c0 c1 b2
      go_wp2_with fail
      go_quiet (fail)
      go_wp2_with fail
      exact ⟨⟨k + 1, by omega, by go_num, onB HB.out ⟨rfl, rfl, rfl, Nat.le_refl _, fun _ _ => rfl⟩⟩, by simp [intOf]; omega⟩
    · obtain rfl : k = m := by omega
      have t0 := HD.out.t0
      have t1 := HD.out.t1
      have z0 := HD.out.z0
      have z1 := HD.out.z1
      clear hB
      go_wp2_with fail
      obtain ⟨r1, r2, r3, r4⟩ := HD.out.told (0) (2)
      generalize ((_ : World).setCell ⟨w.heap.size + 1, 0, none⟩ (.int .i64 (0))).setCell ⟨w.heap.size + 1, 1, none⟩ (.int .i64 (2)) = w9 at r1 r2 r3 r4 ⊢
      refine bodyPost_ret (v := .agg #[.int .i64 (0), .int .i64 (2)]) (by simp [results, Try.results11, go_sem, r3, r4]) rfl ⟨rfl, r1, r2⟩

set_option maxHeartbeats 8000000 in
set_option maxRecDepth 100000 in
theorem rtake_hit (p d n cap : Nat) (ao : Option Addr) (F K A N : Int) (B : Nat → Bool) (w : World) (hR : Ref w p d n ao cap F B) (hk : K = 0) (h1 : 1 ≤ N) (hn : n ≤ 300) (f0 : 0 ≤ F) (f1 : F ≤ 65536) {P Q : List (Int × Int)} {a k0 : Int} (hG : Good F (F + n) (P ++ (a, k0) :: Q)) (hLk : Link F n B (P ++ (a, k0) :: Q)) (hP : ∀ x, x ∈ P → x.2 < N) (hk0 : N ≤ k0) :
    Calls Try.prog 11 #[.pointer (some ⟨p, 0, none⟩), .agg #[.int .i64 K, .int .i64 A, .int .i64 N]] w (Left w p d n ao cap F (unset F a N B) (a) (0)) := by
  have HD := Lib.hid (dob_start (K := K) (A := A) (N := N) hR)
  clear hR
  have a0 := HD.out.a0
  have a1 := HD.out.a1
  have a2 := HD.out.a2
  have t0 := HD.out.t0
  have t1 := HD.out.t1
  have z0 := HD.out.z0
  have z1 := HD.out.z1
  have q0 := HD.out.ref.first
  have q1 := HD.out.ref.free
  have b1 : decide (N < 1) = false := by simp; omega
  subst hk
  go_enter Try.func11, Try.ntmps11
  go_wp2_with fail
  refine (rlist p d n cap ao F B _ HD.out.ref hn f0 f1).mono ?_
  rintro e w2 ⟨R, ro, c, rfl, hL, hRd, hb, hnew⟩
  obtain rfl := (reads_eq hRd hG hLk).symm
  replace HD := Lib.hid (HD.out.later hb)
  have HL := Lib.hid hL
  have hsm := good_length hG (by omega)
  obtain ⟨m, hm⟩ : ∃ m, (P ++ (a, k0) :: Q).length = m := ⟨_, rfl⟩
  rw [hm] at hsm ⊢
  have HM := Lib.hid hm
  have HG := Lib.hid hG
  have HNW := Lib.hid hnew
  clear hb hL hRd hm hG hLk hnew a0 a1 a2 t0 t1 z0 z1 q0 q1
  go_wp2_with fail
  obtain ⟨i, hi⟩ : ∃ i, P.length = i := ⟨_, rfl⟩
  have him : i < m := by rw [← HM.out, ← hi]; simp
  have hlo : ∀ k, k < i → ∃ x, (P ++ (a, k0) :: Q)[k]? = some x ∧ x.2 < N := fun k hk => ⟨P[k]'(by omega), (List.getElem?_append_left (by omega)).trans (List.getElem?_eq_getElem _), hP _ (List.getElem_mem _)⟩
  have hat : (P ++ (a, k0) :: Q)[i]? = some (a, k0) := by rw [List.getElem?_append_right (by omega), hi, Nat.sub_self]; rfl
  have gm := good_mem HG.out (x := (a, k0)) (by simp)
  have HLO := Lib.hid hlo
  have HAT := Lib.hid hat
  simp only at gm
  clear hlo hP hat hi HG
  go_loopw [6, 7] (fun s6 _ wr => ∃ k : Nat, k ≤ i ∧ s6 = .int .i64 k ∧ Below w2.heap.size w2 wr) (fun s6 _ _ => m - (intOf s6).toNat)
  case atStart => exact ⟨0, Nat.zero_le _, rfl, Below.refl _ _⟩
  case round =>
    obtain ⟨k, hk, rfl, hB⟩ := hrel
    replace HD := Lib.hid (HD.out.later hB)
    have a2 := HD.out.a2
    by_cases hlt : k < i
    · have hkm : (k : Int) < (m : Int) := by omega
      obtain ⟨b, rfl, hbl, hcell⟩ := HL.out (by have := HM.out; omega)
      obtain ⟨x, hx, hxN⟩ := HLO.out k hlt
      obtain ⟨c0, c1⟩ := hcell k x hx
      replace c0 := (hB.cell (p := ⟨b, k * 2, none⟩) hbl).trans c0
      replace c1 := (hB.cell (p := ⟨b, k * 2 + 1, none⟩) hbl).trans c1
      have b2 : decide (N ≤ x.2) = false := by simp; omega
      have HB := Lib.hid hB
      clear hx hcell hB hxN
      obtain ⟨xa, xk⟩ := x
      simp only at c0 c1 b2
      go_wp2_with fail
      go_quiet (fail)
      go_wp2_with fail
      exact ⟨⟨k + 1, by omega, by go_num, onB HB.out ⟨rfl, rfl, rfl, Nat.le_refl _, fun _ _ => rfl⟩⟩, by simp [intOf]; omega⟩
    · obtain rfl : k = i := by omega
      have hkm : (k : Int) < (m : Int) := by omega
      obtain ⟨b, rfl, hbl, hcell⟩ := HL.out (by have := HM.out; omega)
      obtain ⟨c0, c1⟩ := hcell k _ HAT.out
      have HC := Lib.hid c0
      replace c0 := (hB.cell (p := ⟨b, k * 2, none⟩) hbl).trans c0
      replace c1 := (hB.cell (p := ⟨b, k * 2 + 1, none⟩) hbl).trans c1
      have b2 : decide (N ≤ k0) = true := by simpa using hk0
      simp only at c0 c1
      have hbd : d < b := by
        have := HNW.out b rfl
        simp at this
        have := HD.out.ld
        omega
      clear hcell hB
      go_wp2_with fail
      go_quiet (fail)
      have HD2 := Lib.hid (HD.out.later (W' := wr.drewN nq) ⟨rfl, rfl, rfl, Nat.le_refl _, fun _ _ => rfl⟩)
      have HC2 : Hid ((wr.drewN nq).cell? ⟨b, k * 2, none⟩ = some (.int .i64 a)) := c0
      clear c0 c1 HC HD a2
      generalize wr.drewN nq = w3 at HD2 HC2 ⊢
      go_wp2_with fail
      go_loopw [7] (fun s7 wq => ∃ q : Nat, (q : Int) ≤ N ∧ s7 = .int .i64 q ∧ Dob w p d n ao cap F 0 A N (unset F a q B) wq ∧ wq.cell? ⟨b, k * 2, none⟩ = some (.int .i64 a)) (fun s7 _ => N.toNat - (intOf s7).toNat)
      case atStart => exact ⟨0, by omega, rfl, HD2.out.cast fun k _ => by simp [unset]; omega, HC2.out⟩
      case round =>
        clear HD2 HC2
        obtain ⟨q, hq, rfl, hD, c0⟩ := hrel
        have HD := Lib.hid hD
        have a2 := hD.a2
        clear hD
        by_cases hqN : (q : Int) < N
        · have q0 := HD.out.ref.first
          have q1 := HD.out.ref.free
          obtain ⟨rfl, hpd⟩ := HD.out.ref.addr (by omega)
          obtain ⟨idx, hidx⟩ : ∃ idx : Nat, idx = (a - F).toNat + q := ⟨_, rfl⟩
          have hin : idx < n := by omega
          have e0 := HD.out.ref.data idx hin
          have ez := HD.out.ref.fd idx hin
          have w1 : IntKind.i64.wrap (a - F) = a - F := IntWalk.i64_in _ (by omega)
          have w2 : IntKind.i64.wrap (a - F + (q : Int)) = a - F + (q : Int) := IntWalk.i64_in _ (by omega)
          have j0 : (0 : Int) ≤ a - F + (q : Int) := by omega
          have j1 : a - F + (q : Int) < (n : Int) := by omega
          have j2 : (a - F + (q : Int)).toNat = idx := by omega
          have hD9 := (HD.out.put idx false hin).cast (B' := unset F a ((q + 1 : Nat) : Int) B) (fun x _ => by
            unfold unset
            by_cases e : x = idx
            · rw [if_pos e, if_pos (by omega)]
            · rw [if_neg e]
              by_cases e2 : a ≤ F + (x : Int) ∧ F + (x : Int) < a + (q : Int)
              · rw [if_pos e2, if_pos (by omega)]
              · rw [if_neg e2, if_neg (by omega)])
          have HD9 := Lib.hid hD9
          have c9 : (wr.setCell ⟨d, idx, none⟩ (.bool false)).cell? ⟨b, k * 2, none⟩ = some (.int .i64 a) := (World.cell?_setCell_other _ _ _ _ (fun e => by have := congrArg Addr.block e; simp at this; omega)).trans c0
          have HC9 := Lib.hid c9
          clear hD9 c9 hidx
          go_wp2_with fail
          go_region
          all_goals go_wp2_with fail
          all_goals exact ⟨⟨q + 1, by omega, by go_num, HD9.out.later (Below.refl _ _).drew, HC9.out⟩, by simp [intOf]; omega⟩
        · have e : (q : Int) = N := by omega
          replace HD := Lib.hid (HD.out.cast (B' := unset F a N B) fun x _ => by rw [e])
          have t0 := HD.out.t0
          have t1 := HD.out.t1
          have z0 := HD.out.z0
          have z1 := HD.out.z1
          clear e
          go_wp2_with fail
          obtain ⟨r1, r2, r3, r4⟩ := HD.out.told (a) (0)
          generalize ((_ : World).setCell ⟨w.heap.size + 1, 0, none⟩ (.int .i64 (a))).setCell ⟨w.heap.size + 1, 1, none⟩ (.int .i64 (0)) = w9 at r1 r2 r3 r4 ⊢
          refine bodyPost_ret (v := .agg #[.int .i64 (a), .int .i64 (0)]) (by simp [results, Try.results11, go_sem, r3, r4]) rfl ⟨rfl, r1, r2⟩


end Go.Proofs.Ytpnojoldcfghfaa
