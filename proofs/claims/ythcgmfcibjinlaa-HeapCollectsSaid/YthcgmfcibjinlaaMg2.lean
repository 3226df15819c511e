import Derived.Lib.Hide
import Derived.BigQuiet
import Derived.Deep.QuietTactic
import Derived.Deep.RegionHeld3
import Derived.Deep.RegionWith
import Derived.Test.YthcgmfcibjinlaaMg1
/- A ring as it lies; its links, by its closures; two cells joined. -/
namespace Go.Proofs.Ythcgmfcibjinlaa
open Go.RowKit

/-- Where a ring lies: its struct, its arena, the arena's words, how many; what its links' closures have captured. -/
structure Spot where
  r : Nat
  p : Nat
  d : Nat
  n : Nat
  a1 : Nat
  n1 : Nat
  a2 : Nat
  n2 : Nat

/-- Nothing that was there has turned but a ring, its arena, its words. -/
structure Turn (s : Spot) (w w' : World) : Prop where
  os : w'.os = w.os
  tape : w'.tape = w.tape
  output : w'.output = w.output
  size : w.heap.size ≤ w'.heap.size
  block : ∀ k, k < w.heap.size → k ≠ s.r → k ≠ s.p → k ≠ s.d → w'.heap[k]? = w.heap[k]?

theorem Turn.refl (s : Spot) (w : World) : Turn s w w := ⟨rfl, rfl, rfl, Nat.le_refl _, fun _ _ _ _ _ => rfl⟩
theorem Turn.trans {s : Spot} {a b c : World} (h : Turn s a b) (k : Turn s b c) : Turn s a c :=
  ⟨k.os.trans h.os, k.tape.trans h.tape, k.output.trans h.output, Nat.le_trans h.size k.size, fun i hi h1 h2 h3 => (k.block i (Nat.lt_of_lt_of_le hi h.size) h1 h2 h3).trans (h.block i hi h1 h2 h3)⟩
theorem Turn.of_apart {s : Spot} {w w' : World} (h : Apart s.p s.d w w') : Turn s w w' := ⟨h.os, h.tape, h.output, h.size, fun k hk _ h2 h3 => h.block k hk h2 h3⟩
theorem Turn.of_below {s : Spot} {w w' : World} (h : Below w.heap.size w w') : Turn s w w' := ⟨h.os, h.tape, h.output, h.size, fun k hk _ _ _ => h.block k hk⟩
theorem Turn.setR (s : Spot) (i : Nat) (v : Value) (w : World) : Turn s w (w.setCell ⟨s.r, i, none⟩ v) :=
  ⟨rfl, rfl, rfl, by simp [World.setCell], fun k _ h _ _ => Below.heap_setCell _ _ _ _ h⟩
theorem Turn.then {s : Spot} {a b c : World} (h : Turn s a b) (k : Below a.heap.size b c) : Turn s a c :=
  ⟨k.os.trans h.os, k.tape.trans h.tape, k.output.trans h.output, Nat.le_trans h.size k.size, fun i hi h1 h2 h3 => (k.block i hi).trans (h.block i hi h1 h2 h3)⟩
theorem Turn.below {s : Spot} {B : Nat} {w w' : World} (h : Turn s w w') (hr : B ≤ s.r) (hp : B ≤ s.p) (hd : B ≤ s.d) (hB : B ≤ w.heap.size) : Below B w w' :=
  ⟨h.os, h.tape, h.output, h.size, fun k hk => h.block k (by omega) (by omega) (by omega) (by omega)⟩
theorem Turn.cell {s : Spot} {w w' : World} (h : Turn s w w') {a : Addr} {v : Value} (hc : w.cell? a = some v) (h1 : a.block ≠ s.r) (h2 : a.block ≠ s.p) (h3 : a.block ≠ s.d) : w'.cell? a = some v :=
  (World.cell?_of_block (w := w) (h.block a.block (World.block_lt_of_cell? _ _ hc) h1 h2 h3)).trans hc
theorem Turn.frozen {s : Spot} {w w' : World} (h : Turn s w w') {a : Addr} (hl : a.block < w.heap.size) (h1 : a.block ≠ s.r) (h2 : a.block ≠ s.p) (h3 : a.block ≠ s.d) : w'.frozen? a = w.frozen? a :=
  World.frozen?_of_block (w := w) (h.block a.block hl h1 h2 h3)

/-- A RING AS IT LIES. -/
structure Lies (s : Spot) (C F D : Nat → Int) (w : World) : Prop where
  arena : w.cell? ⟨s.r, 0, none⟩ = some (.pointer (some ⟨s.p, 0, none⟩))
  nof : w.cell? ⟨s.r, 1, none⟩ = some (.func (.func 99) #[] #[.pointer (some ⟨s.a1, 0, none⟩), .pointer (some ⟨s.n1, 0, none⟩)])
  nset : w.cell? ⟨s.r, 2, none⟩ = some (.func (.func 100) #[] #[.pointer (some ⟨s.a1, 0, none⟩), .pointer (some ⟨s.n1, 0, none⟩)])
  lof : w.cell? ⟨s.r, 3, none⟩ = some (.func (.func 99) #[] #[.pointer (some ⟨s.a2, 0, none⟩), .pointer (some ⟨s.n2, 0, none⟩)])
  lset : w.cell? ⟨s.r, 4, none⟩ = some (.func (.func 100) #[] #[.pointer (some ⟨s.a2, 0, none⟩), .pointer (some ⟨s.n2, 0, none⟩)])
  count : ∀ k, k < 4 → w.cell? ⟨s.r, 5 + k, none⟩ = some (.int .i64 (C k))
  first : ∀ k, k < 4 → w.cell? ⟨s.r, 9 + k, none⟩ = some (.int .i64 (F k))
  fz : ∀ j, w.frozen? ⟨s.r, j, none⟩ = false
  ba1 : w.cell? ⟨s.a1, 0, none⟩ = some (.pointer (some ⟨s.p, 0, none⟩))
  bn1 : w.cell? ⟨s.n1, 0, none⟩ = some (.int .i64 1)
  ba2 : w.cell? ⟨s.a2, 0, none⟩ = some (.pointer (some ⟨s.p, 0, none⟩))
  bn2 : w.cell? ⟨s.n2, 0, none⟩ = some (.int .i64 2)
  words : ∃ u, At w s.p s.d s.n D u
  nb : s.n ≤ 65536
  rp : s.r ≠ s.p
  rd : s.r ≠ s.d
  a1' : s.a1 ≠ s.r ∧ s.a1 ≠ s.p ∧ s.a1 ≠ s.d
  n1' : s.n1 ≠ s.r ∧ s.n1 ≠ s.p ∧ s.n1 ≠ s.d
  a2' : s.a2 ≠ s.r ∧ s.a2 ≠ s.p ∧ s.a2 ≠ s.d
  n2' : s.n2 ≠ s.r ∧ s.n2 ≠ s.p ∧ s.n2 ≠ s.d

section
variable {s : Spot} {C F D : Nat → Int} {w w' : World}
theorem Lies.lr (h : Lies s C F D w) : s.r < w.heap.size := World.block_lt_of_cell? _ _ h.arena
theorem Lies.lp (h : Lies s C F D w) : s.p < w.heap.size := h.words.elim fun _ h => h.lp
theorem Lies.ld (h : Lies s C F D w) : s.d < w.heap.size := h.words.elim fun _ h => h.ld
theorem Lies.apart (h : Lies s C F D w) {D' : Nat → Int} {u : Int} (hq : Apart s.p s.d w w') (hA : At w' s.p s.d s.n D' u) : Lies s C F D' w' :=
  ⟨hq.cell h.arena h.rp h.rd, hq.cell h.nof h.rp h.rd, hq.cell h.nset h.rp h.rd, hq.cell h.lof h.rp h.rd, hq.cell h.lset h.rp h.rd,
    fun k hk => hq.cell (h.count k hk) h.rp h.rd, fun k hk => hq.cell (h.first k hk) h.rp h.rd, fun j => (hq.frozen h.lr h.rp h.rd).trans (h.fz j),
    hq.cell h.ba1 h.a1'.2.1 h.a1'.2.2, hq.cell h.bn1 h.n1'.2.1 h.n1'.2.2, hq.cell h.ba2 h.a2'.2.1 h.a2'.2.2, hq.cell h.bn2 h.n2'.2.1 h.n2'.2.2,
    ⟨u, hA⟩, h.nb, h.rp, h.rd, h.a1', h.n1', h.a2', h.n2'⟩
theorem Lies.later (h : Lies s C F D w) (hb : Below w.heap.size w w') : Lies s C F D w' := by
  obtain ⟨u, hu⟩ := h.words
  exact h.apart (Apart.of_below hb) (hu.later hb)
theorem Lies.drew (h : Lies s C F D w) : Lies s C F D w.drew := h.later (Below.refl _ _).drew

theorem Lies.setCount (h : Lies s C F D w) (k : Nat) (v : Int) (hk : k < 4) : Lies s (upd C k v) F D (w.setCell ⟨s.r, 5 + k, none⟩ (.int .i64 v)) := by
  obtain ⟨u, hu⟩ := h.words
  have o : ∀ (a : Addr) (x : Value), w.cell? a = some x → a ≠ ⟨s.r, 5 + k, none⟩ → (w.setCell ⟨s.r, 5 + k, none⟩ (.int .i64 v)).cell? a = some x := fun a x hc hn => (World.cell?_setCell_other _ _ _ _ (Ne.symm hn)).trans hc
  have b : ∀ {a : Addr}, a.block ≠ s.r → a ≠ ⟨s.r, 5 + k, none⟩ := fun hb e => hb (by rw [e])
  have f : ∀ {j : Nat}, j ≠ 5 + k → (⟨s.r, j, none⟩ : Addr) ≠ ⟨s.r, 5 + k, none⟩ := fun _ => by simp
  refine ⟨o _ _ h.arena (f (by omega)), o _ _ h.nof (f (by omega)), o _ _ h.nset (f (by omega)), o _ _ h.lof (f (by omega)), o _ _ h.lset (f (by omega)), fun j hj => ?_, fun j hj => o _ _ (h.first j hj) (f (by omega)),
    fun j => (World.frozen?_setCell _ _ _ _).trans (h.fz j), o _ _ h.ba1 (b h.a1'.1), o _ _ h.bn1 (b h.n1'.1), o _ _ h.ba2 (b h.a2'.1), o _ _ h.bn2 (b h.n2'.1),
    ⟨u, hu.move (Below.heap_setCell _ _ _ _ (Ne.symm h.rp)) (Below.heap_setCell _ _ _ _ (Ne.symm h.rd)) (by simp [World.setCell])⟩, h.nb, h.rp, h.rd, h.a1', h.n1', h.a2', h.n2'⟩
  by_cases e : j = k
  · subst e
    simp only [upd, if_true]
    exact World.cell?_setCell_same _ _ _ (h.count j hj)
  · simp only [upd, e, if_false]
    exact o _ _ (h.count j hj) (f (by omega))

theorem Lies.setFirst (h : Lies s C F D w) (k : Nat) (v : Int) (hk : k < 4) : Lies s C (upd F k v) D (w.setCell ⟨s.r, 9 + k, none⟩ (.int .i64 v)) := by
  obtain ⟨u, hu⟩ := h.words
  have o : ∀ (a : Addr) (x : Value), w.cell? a = some x → a ≠ ⟨s.r, 9 + k, none⟩ → (w.setCell ⟨s.r, 9 + k, none⟩ (.int .i64 v)).cell? a = some x := fun a x hc hn => (World.cell?_setCell_other _ _ _ _ (Ne.symm hn)).trans hc
  have b : ∀ {a : Addr}, a.block ≠ s.r → a ≠ ⟨s.r, 9 + k, none⟩ := fun hb e => hb (by rw [e])
  have f : ∀ {j : Nat}, j ≠ 9 + k → (⟨s.r, j, none⟩ : Addr) ≠ ⟨s.r, 9 + k, none⟩ := fun _ => by simp
  refine ⟨o _ _ h.arena (f (by omega)), o _ _ h.nof (f (by omega)), o _ _ h.nset (f (by omega)), o _ _ h.lof (f (by omega)), o _ _ h.lset (f (by omega)), fun j hj => o _ _ (h.count j hj) (f (by omega)), fun j hj => ?_,
    fun j => (World.frozen?_setCell _ _ _ _).trans (h.fz j), o _ _ h.ba1 (b h.a1'.1), o _ _ h.bn1 (b h.n1'.1), o _ _ h.ba2 (b h.a2'.1), o _ _ h.bn2 (b h.n2'.1),
    ⟨u, hu.move (Below.heap_setCell _ _ _ _ (Ne.symm h.rp)) (Below.heap_setCell _ _ _ _ (Ne.symm h.rd)) (by simp [World.setCell])⟩, h.nb, h.rp, h.rd, h.a1', h.n1', h.a2', h.n2'⟩
  by_cases e : j = k
  · subst e
    simp only [upd, if_true]
    exact World.cell?_setCell_same _ _ _ (h.first j hj)
  · simp only [upd, e, if_false]
    exact o _ _ (h.first j hj) (f (by omega))
end

set_option maxHeartbeats 1000000 in
/-- What a link's closure answers. -/
theorem of_any (s : Spot) (C F D : Nat → Int) (w : World) (hL : Lies s C F D w) (a b k : Nat) (c : Int) (ha : w.cell? ⟨a, 0, none⟩ = some (.pointer (some ⟨s.p, 0, none⟩))) (hk : w.cell? ⟨b, 0, none⟩ = some (.int .i64 k)) (h0 : 1 ≤ c) (h1 : c + 3 ≤ s.n) (h2 : k ≤ 2) :
    Calls Try.prog 99 #[.int .i64 c, .pointer (some ⟨a, 0, none⟩), .pointer (some ⟨b, 0, none⟩)] w fun e w' => e = .returned (.int .i64 (D (c + k).toNat)) ∧ Lies s C F D w' ∧ Turn s w w' := by
  obtain ⟨u, hA⟩ := hL.words
  have hn := hL.nb
  have hw : IntKind.i64.wrap (c + k) = c + k := by rw [IntKind.wrap_i64]; omega
  have hw' : wrap64 (c + k) = c + k := by unfold wrap64; omega
  have HL := Lib.hid hL
  have HA := Lib.hid hA
  clear hL hA
  go_enter Try.func99, Try.ntmps99
  go_wp2_with fail
  refine (load_in s.p s.d s.n D u (c + k) w HA.out (by omega) (by omega)).mono ?_
  rintro e w2 ⟨rfl, hA2, hq⟩
  have HE := Lib.hid (And.intro (HL.out.apart hq hA2) (Turn.of_apart hq))
  clear hA2 hq
  go_wp2_with fail
  go_ret
  exact ⟨rfl, HE.out⟩

set_option maxHeartbeats 1000000 in
/-- What a link's other closure does. -/
theorem set_any (s : Spot) (C F D : Nat → Int) (w : World) (hL : Lies s C F D w) (a b k : Nat) (c x : Int) (ha : w.cell? ⟨a, 0, none⟩ = some (.pointer (some ⟨s.p, 0, none⟩))) (hk : w.cell? ⟨b, 0, none⟩ = some (.int .i64 k)) (h0 : 1 ≤ c) (h1 : c + 3 ≤ s.n) (h2 : k ≤ 2) :
    Calls Try.prog 100 #[.int .i64 c, .int .i64 x, .pointer (some ⟨a, 0, none⟩), .pointer (some ⟨b, 0, none⟩)] w fun e w' => e = .returned (.tuple #[]) ∧ Lies s C F (put D (c + k) x) w' ∧ Turn s w w' := by
  obtain ⟨u, hA⟩ := hL.words
  have hn := hL.nb
  have hw : IntKind.i64.wrap (c + k) = c + k := by rw [IntKind.wrap_i64]; omega
  have hw' : wrap64 (c + k) = c + k := by unfold wrap64; omega
  have HL := Lib.hid hL
  have HA := Lib.hid hA
  clear hL hA
  go_enter Try.func100, Try.ntmps100
  go_wp2_with fail
  refine (store_in s.p s.d s.n D u (c + k) x w HA.out (by omega) (by omega)).mono ?_
  rintro e w2 ⟨rfl, hA2, hq⟩
  have HE : Hid (Lies s C F (put D (c + k) x) w2 ∧ Turn s w w2) := Lib.hid (And.intro (HL.out.apart hq hA2) (Turn.of_apart hq))
  clear hA2 hq
  go_wp2_with fail
  go_end0
  exact ⟨rfl, HE.out⟩

theorem next_any (s : Spot) (C F D : Nat → Int) (w : World) (hL : Lies s C F D w) (c : Int) (h0 : 1 ≤ c) (h1 : c + 3 ≤ s.n) :
    Calls Try.prog 99 #[.int .i64 c, .pointer (some ⟨s.a1, 0, none⟩), .pointer (some ⟨s.n1, 0, none⟩)] w fun e w' => e = .returned (.int .i64 (D (c + 1).toNat)) ∧ Lies s C F D w' ∧ Turn s w w' :=
  of_any s C F D w hL s.a1 s.n1 1 c hL.ba1 hL.bn1 h0 h1 (by omega)
theorem last_any (s : Spot) (C F D : Nat → Int) (w : World) (hL : Lies s C F D w) (c : Int) (h0 : 1 ≤ c) (h1 : c + 3 ≤ s.n) :
    Calls Try.prog 99 #[.int .i64 c, .pointer (some ⟨s.a2, 0, none⟩), .pointer (some ⟨s.n2, 0, none⟩)] w fun e w' => e = .returned (.int .i64 (D (c + 2).toNat)) ∧ Lies s C F D w' ∧ Turn s w w' :=
  of_any s C F D w hL s.a2 s.n2 2 c hL.ba2 hL.bn2 h0 h1 (by omega)
theorem setNext_any (s : Spot) (C F D : Nat → Int) (w : World) (hL : Lies s C F D w) (c x : Int) (h0 : 1 ≤ c) (h1 : c + 3 ≤ s.n) :
    Calls Try.prog 100 #[.int .i64 c, .int .i64 x, .pointer (some ⟨s.a1, 0, none⟩), .pointer (some ⟨s.n1, 0, none⟩)] w fun e w' => e = .returned (.tuple #[]) ∧ Lies s C F (put D (c + 1) x) w' ∧ Turn s w w' :=
  set_any s C F D w hL s.a1 s.n1 1 c x hL.ba1 hL.bn1 h0 h1 (by omega)
theorem setLast_any (s : Spot) (C F D : Nat → Int) (w : World) (hL : Lies s C F D w) (c x : Int) (h0 : 1 ≤ c) (h1 : c + 3 ≤ s.n) :
    Calls Try.prog 100 #[.int .i64 c, .int .i64 x, .pointer (some ⟨s.a2, 0, none⟩), .pointer (some ⟨s.n2, 0, none⟩)] w fun e w' => e = .returned (.tuple #[]) ∧ Lies s C F (put D (c + 2) x) w' ∧ Turn s w w' :=
  set_any s C F D w hL s.a2 s.n2 2 c x hL.ba2 hL.bn2 h0 h1 (by omega)

set_option maxHeartbeats 1000000 in
/-- join. -/
theorem join_any (s : Spot) (C F D : Nat → Int) (w : World) (hL : Lies s C F D w) (a b : Int) (h0 : 1 ≤ a) (h1 : a + 3 ≤ s.n) (h2 : 1 ≤ b) (h3 : b + 3 ≤ s.n) :
    Calls Try.prog 98 #[.pointer (some ⟨s.r, 0, none⟩), .int .i64 a, .int .i64 b] w fun e w' => e = .returned (.tuple #[]) ∧ Lies s C F (join D a b) w' ∧ Turn s w w' := by
  have c2 := hL.nset
  have HL := Lib.hid hL
  clear hL
  go_enter Try.func98, Try.ntmps98
  go_wp2_with fail
  refine (setNext_any s C F D w HL.out a b h0 h1).mono ?_
  rintro e w2 ⟨rfl, hL2, hq⟩
  have c4 := hL2.lset
  have HL2 := Lib.hid hL2
  have HQ := Lib.hid hq
  clear hL2 hq c2 HL
  go_wp2_with fail
  refine (setLast_any s C F _ w2 HL2.out b a h2 h3).mono ?_
  rintro e w3 ⟨rfl, hL3, hq3⟩
  have HE : Hid (Lies s C F (join D a b) w3 ∧ Turn s w w3) := Lib.hid (And.intro hL3 (HQ.out.trans hq3))
  clear hL3 hq3 c4 HL2 HQ
  go_wp2_with fail
  go_end0
  exact ⟨rfl, HE.out⟩

end Go.Proofs.Ythcgmfcibjinlaa

/- What stands at a row's beginning; a cell linked in, or out; a row that loses one, or gets one; a whole row that is another one's. -/
namespace Go.Proofs.Ythcgmfcibjinlaa
open Go.RowKit


set_option maxHeartbeats 1000000 in
theorem start_0 (s : Spot) (C F D : Nat → Int) (w : World) (hL : Lies s C F D w) :
    Calls Try.prog 71 #[.pointer (some ⟨s.r, 0, none⟩), .int .i64 0] w fun e w' => e = .returned (.int .i64 (start0 C F)) ∧ w' = w := by
  have c0 : w.cell? ⟨s.r, 5, none⟩ = some (.int .i64 (C 0)) := hL.count 0 (by decide)
  have f0 : w.cell? ⟨s.r, 9, none⟩ = some (.int .i64 (F 0)) := hL.first 0 (by decide)
  have c1 : w.cell? ⟨s.r, 6, none⟩ = some (.int .i64 (C 1)) := hL.count 1 (by decide)
  have f1 : w.cell? ⟨s.r, 10, none⟩ = some (.int .i64 (F 1)) := hL.first 1 (by decide)
  have c2 : w.cell? ⟨s.r, 7, none⟩ = some (.int .i64 (C 2)) := hL.count 2 (by decide)
  have f2 : w.cell? ⟨s.r, 11, none⟩ = some (.int .i64 (F 2)) := hL.first 2 (by decide)
  have c3 : w.cell? ⟨s.r, 8, none⟩ = some (.int .i64 (C 3)) := hL.count 3 (by decide)
  have f3 : w.cell? ⟨s.r, 12, none⟩ = some (.int .i64 (F 3)) := hL.first 3 (by decide)
  clear hL
  unfold start0
  obtain ⟨X, hX⟩ : ∃ X, start0 C F = X := ⟨_, rfl⟩
  have hX' := hX
  unfold start0 at hX'
  rw [hX']
  have HX := Lib.hid hX'
  clear hX hX'
  go_enter Try.func71, Try.ntmps71
  go_wp2_with fail
  go_loopw [7] (fun s7 wr => ∃ i : Nat, i ≤ 4 ∧ s7 = .int .i64 i ∧ wr = w ∧ (0 < i → C 0 ≤ 0) ∧ (1 < i → C 1 ≤ 0) ∧ (2 < i → C 2 ≤ 0) ∧ (3 < i → C 3 ≤ 0)) (fun s7 _ => 4 - (intOf s7).toNat)
  case atStart => exact ⟨0, by decide, rfl, rfl, by simp, by simp, by simp, by simp⟩
  case round =>
    obtain ⟨i, hi, rfl, rfl, z0, z1, z2, z3⟩ := hrel
    have HZ := Lib.hid (And.intro z0 (And.intro z1 (And.intro z2 z3)))
    clear z0 z1 z2 z3
    obtain rfl | rfl | rfl | rfl | rfl : i = 0 ∨ i = 1 ∨ i = 2 ∨ i = 3 ∨ i = 4 := by omega
    · by_cases g : 0 < C 0
      · have g' : decide (0 < C 0) = true := decide_eq_true g
        go_wp2_with fail
        have h := HX.out
        
        rw [if_pos g] at h
        go_ret
        exact ⟨by simp [h], by first | rfl | trivial⟩
      · have g' : decide (0 < C 0) = false := decide_eq_false g
        go_wp2_with fail
        exact ⟨⟨1, by decide, by go_num, (by first | rfl | trivial), fun _ => Int.not_lt.1 g, by intro h; omega, by intro h; omega, by intro h; omega⟩, by simp [intOf]⟩
    · by_cases g : 0 < C 1
      · have g' : decide (0 < C 1) = true := decide_eq_true g
        go_wp2_with fail
        have h := HX.out
        have y0 := HZ.out.1 (by decide);
        rw [if_neg (Int.not_lt.2 y0), if_pos g] at h
        go_ret
        exact ⟨by simp [h], by first | rfl | trivial⟩
      · have g' : decide (0 < C 1) = false := decide_eq_false g
        go_wp2_with fail
        exact ⟨⟨2, by decide, by go_num, (by first | rfl | trivial), by intro h; exact HZ.out.1 (by decide), fun _ => Int.not_lt.1 g, by intro h; omega, by intro h; omega⟩, by simp [intOf]⟩
    · by_cases g : 0 < C 2
      · have g' : decide (0 < C 2) = true := decide_eq_true g
        go_wp2_with fail
        have h := HX.out
        have y0 := HZ.out.1 (by decide); have y1 := HZ.out.2.1 (by decide);
        rw [if_neg (Int.not_lt.2 y0), if_neg (Int.not_lt.2 y1), if_pos g] at h
        go_ret
        exact ⟨by simp [h], by first | rfl | trivial⟩
      · have g' : decide (0 < C 2) = false := decide_eq_false g
        go_wp2_with fail
        exact ⟨⟨3, by decide, by go_num, (by first | rfl | trivial), by intro h; exact HZ.out.1 (by decide), by intro h; exact HZ.out.2.1 (by decide), fun _ => Int.not_lt.1 g, by intro h; omega⟩, by simp [intOf]⟩
    · by_cases g : 0 < C 3
      · have g' : decide (0 < C 3) = true := decide_eq_true g
        go_wp2_with fail
        have h := HX.out
        have y0 := HZ.out.1 (by decide); have y1 := HZ.out.2.1 (by decide); have y2 := HZ.out.2.2.1 (by decide);
        rw [if_neg (Int.not_lt.2 y0), if_neg (Int.not_lt.2 y1), if_neg (Int.not_lt.2 y2), if_pos g] at h
        go_ret
        exact ⟨by simp [h], by first | rfl | trivial⟩
      · have g' : decide (0 < C 3) = false := decide_eq_false g
        go_wp2_with fail
        exact ⟨⟨4, by decide, by go_num, (by first | rfl | trivial), by intro h; exact HZ.out.1 (by decide), by intro h; exact HZ.out.2.1 (by decide), by intro h; exact HZ.out.2.2.1 (by decide), fun _ => Int.not_lt.1 g⟩, by simp [intOf]⟩
    · go_wp2_with fail
      have h := HX.out
      have y0 := HZ.out.1 (by decide); have y1 := HZ.out.2.1 (by decide); have y2 := HZ.out.2.2.1 (by decide); have y3 := HZ.out.2.2.2 (by decide);
      rw [if_neg (Int.not_lt.2 y0), if_neg (Int.not_lt.2 y1), if_neg (Int.not_lt.2 y2), if_neg (Int.not_lt.2 y3)] at h
      go_ret
      exact ⟨by simp [h], by first | rfl | trivial⟩

set_option maxHeartbeats 1000000 in
theorem start_3 (s : Spot) (C F D : Nat → Int) (w : World) (hL : Lies s C F D w) :
    Calls Try.prog 71 #[.pointer (some ⟨s.r, 0, none⟩), .int .i64 3] w fun e w' => e = .returned (.int .i64 (start3 C F)) ∧ w' = w := by
  have c0 : w.cell? ⟨s.r, 5, none⟩ = some (.int .i64 (C 0)) := hL.count 0 (by decide)
  have f0 : w.cell? ⟨s.r, 9, none⟩ = some (.int .i64 (F 0)) := hL.first 0 (by decide)
  have c1 : w.cell? ⟨s.r, 6, none⟩ = some (.int .i64 (C 1)) := hL.count 1 (by decide)
  have f1 : w.cell? ⟨s.r, 10, none⟩ = some (.int .i64 (F 1)) := hL.first 1 (by decide)
  have c2 : w.cell? ⟨s.r, 7, none⟩ = some (.int .i64 (C 2)) := hL.count 2 (by decide)
  have f2 : w.cell? ⟨s.r, 11, none⟩ = some (.int .i64 (F 2)) := hL.first 2 (by decide)
  have c3 : w.cell? ⟨s.r, 8, none⟩ = some (.int .i64 (C 3)) := hL.count 3 (by decide)
  have f3 : w.cell? ⟨s.r, 12, none⟩ = some (.int .i64 (F 3)) := hL.first 3 (by decide)
  clear hL
  unfold start3
  obtain ⟨X, hX⟩ : ∃ X, start3 C F = X := ⟨_, rfl⟩
  have hX' := hX
  unfold start3 at hX'
  rw [hX']
  have HX := Lib.hid hX'
  clear hX hX'
  go_enter Try.func71, Try.ntmps71
  go_wp2_with fail
  go_loopw [7] (fun s7 wr => ∃ i : Nat, i ≤ 4 ∧ s7 = .int .i64 i ∧ wr = w ∧ (0 < i → C 3 ≤ 0) ∧ (1 < i → C 0 ≤ 0) ∧ (2 < i → C 1 ≤ 0) ∧ (3 < i → C 2 ≤ 0)) (fun s7 _ => 4 - (intOf s7).toNat)
  case atStart => exact ⟨0, by decide, rfl, rfl, by simp, by simp, by simp, by simp⟩
  case round =>
    obtain ⟨i, hi, rfl, rfl, z0, z1, z2, z3⟩ := hrel
    have HZ := Lib.hid (And.intro z0 (And.intro z1 (And.intro z2 z3)))
    clear z0 z1 z2 z3
    obtain rfl | rfl | rfl | rfl | rfl : i = 0 ∨ i = 1 ∨ i = 2 ∨ i = 3 ∨ i = 4 := by omega
    · by_cases g : 0 < C 3
      · have g' : decide (0 < C 3) = true := decide_eq_true g
        go_wp2_with fail
        have h := HX.out
        
        rw [if_pos g] at h
        go_ret
        exact ⟨by simp [h], by first | rfl | trivial⟩
      · have g' : decide (0 < C 3) = false := decide_eq_false g
        go_wp2_with fail
        exact ⟨⟨1, by decide, by go_num, (by first | rfl | trivial), fun _ => Int.not_lt.1 g, by intro h; omega, by intro h; omega, by intro h; omega⟩, by simp [intOf]⟩
    · by_cases g : 0 < C 0
      · have g' : decide (0 < C 0) = true := decide_eq_true g
        go_wp2_with fail
        have h := HX.out
        have y0 := HZ.out.1 (by decide);
        rw [if_neg (Int.not_lt.2 y0), if_pos g] at h
        go_ret
        exact ⟨by simp [h], by first | rfl | trivial⟩
      · have g' : decide (0 < C 0) = false := decide_eq_false g
        go_wp2_with fail
        exact ⟨⟨2, by decide, by go_num, (by first | rfl | trivial), by intro h; exact HZ.out.1 (by decide), fun _ => Int.not_lt.1 g, by intro h; omega, by intro h; omega⟩, by simp [intOf]⟩
    · by_cases g : 0 < C 1
      · have g' : decide (0 < C 1) = true := decide_eq_true g
        go_wp2_with fail
        have h := HX.out
        have y0 := HZ.out.1 (by decide); have y1 := HZ.out.2.1 (by decide);
        rw [if_neg (Int.not_lt.2 y0), if_neg (Int.not_lt.2 y1), if_pos g] at h
        go_ret
        exact ⟨by simp [h], by first | rfl | trivial⟩
      · have g' : decide (0 < C 1) = false := decide_eq_false g
        go_wp2_with fail
        exact ⟨⟨3, by decide, by go_num, (by first | rfl | trivial), by intro h; exact HZ.out.1 (by decide), by intro h; exact HZ.out.2.1 (by decide), fun _ => Int.not_lt.1 g, by intro h; omega⟩, by simp [intOf]⟩
    · by_cases g : 0 < C 2
      · have g' : decide (0 < C 2) = true := decide_eq_true g
        go_wp2_with fail
        have h := HX.out
        have y0 := HZ.out.1 (by decide); have y1 := HZ.out.2.1 (by decide); have y2 := HZ.out.2.2.1 (by decide);
        rw [if_neg (Int.not_lt.2 y0), if_neg (Int.not_lt.2 y1), if_neg (Int.not_lt.2 y2), if_pos g] at h
        go_ret
        exact ⟨by simp [h], by first | rfl | trivial⟩
      · have g' : decide (0 < C 2) = false := decide_eq_false g
        go_wp2_with fail
        exact ⟨⟨4, by decide, by go_num, (by first | rfl | trivial), by intro h; exact HZ.out.1 (by decide), by intro h; exact HZ.out.2.1 (by decide), by intro h; exact HZ.out.2.2.1 (by decide), fun _ => Int.not_lt.1 g⟩, by simp [intOf]⟩
    · go_wp2_with fail
      have h := HX.out
      have y0 := HZ.out.1 (by decide); have y1 := HZ.out.2.1 (by decide); have y2 := HZ.out.2.2.1 (by decide); have y3 := HZ.out.2.2.2 (by decide);
      rw [if_neg (Int.not_lt.2 y0), if_neg (Int.not_lt.2 y1), if_neg (Int.not_lt.2 y2), if_neg (Int.not_lt.2 y3)] at h
      go_ret
      exact ⟨by simp [h], by first | rfl | trivial⟩

end Go.Proofs.Ythcgmfcibjinlaa

/- A cell linked in, or out; a row that loses one, or gets one; a whole row that is another one's. -/
namespace Go.Proofs.Ythcgmfcibjinlaa
open Go.RowKit

def Rng (n : Nat) (x : Int) : Prop := 1 ≤ x ∧ x + 3 ≤ n

set_option maxHeartbeats 1000000 in
theorem insert_any (s : Spot) (C F D : Nat → Int) (w : World) (hL : Lies s C F D w) (c x : Int) (hc : Rng s.n c) (hx : x = 0 ∨ (Rng s.n x ∧ Rng s.n (D (x + 2).toNat))) :
    Calls Try.prog 70 #[.pointer (some ⟨s.r, 0, none⟩), .int .i64 c, .int .i64 x] w fun e w' => e = .returned (.tuple #[]) ∧ Lies s C F (inserted D c x) w' ∧ Turn s w w' := by
  obtain ⟨D', hD⟩ : ∃ D', inserted D c x = D' := ⟨_, rfl⟩
  rw [hD]
  by_cases g : x = 0
  · subst g
    have hj := join_any s C F D w hL c c hc.1 hc.2 hc.1 hc.2
    rw [show join D c c = D' by rw [← hD]; rfl] at hj
    have HJ := Lib.hid hj
    clear hL hc hx hD hj
    go_enter Try.func70, Try.ntmps70
    go_wp2_with fail
    refine HJ.out.mono ?_
    rintro e w2 ⟨rfl, hE⟩
    have HE := Lib.hid hE
    clear hE HJ
    go_wp2_with fail
    exact bodyPost_ret (v := .tuple #[]) (by simp [results, Try.results70]) rfl ⟨rfl, HE.out⟩
  · have g' : (x == 0) = false := by simpa using g
    obtain ⟨hx1, hx2⟩ := hx.resolve_left g
    have hl := last_any s C F D w hL x hx1.1 hx1.2
    have c3 := hL.lof
    have h2 : ∀ w, Lies s C F D w → _ := fun w h => join_any s C F D w h (D (x + 2).toNat) c hx2.1 hx2.2 hc.1 hc.2
    have h3 : ∀ w, Lies s C F (join D (D (x + 2).toNat) c) w → _ := fun w h => join_any s C F _ w h c x hc.1 hc.2 hx1.1 hx1.2
    rw [show join (join D (D (x + 2).toNat) c) c x = D' by rw [← hD, inserted, if_neg g]] at h3
    have HL := Lib.hid hl
    have H2 := Lib.hid h2
    have H3 := Lib.hid h3
    generalize D (x + 2).toNat = z at HL H2 H3
    clear hL hc hx hD hx1 hx2 hl h2 h3 g
    go_enter Try.func70, Try.ntmps70
    go_wp2_with fail
    refine HL.out.mono ?_
    rintro e w2 ⟨rfl, hL2, hq2⟩
    have HL2 := Lib.hid hL2
    have HQ2 := Lib.hid hq2
    clear hL2 hq2 HL c3
    go_wp2_with fail
    refine (H2.out w2 HL2.out).mono ?_
    rintro e w3 ⟨rfl, hL3, hq3⟩
    have HL3 := Lib.hid hL3
    have HQ3 := Lib.hid (HQ2.out.trans hq3)
    clear hL3 hq3 HL2 HQ2
    go_wp2_with fail
    refine (H3.out w3 HL3.out).mono ?_
    rintro e w4 ⟨rfl, hL4, hq4⟩
    have HE := Lib.hid (And.intro hL4 (HQ3.out.trans hq4))
    clear hL4 hq4 HL3 HQ3
    go_wp2_with fail
    go_end0
    exact ⟨rfl, HE.out⟩

theorem keep_two {s : Spot} {C F D : Nat → Int} {w : World} (h : Lies s C F D w) : w.cell? ⟨s.r, 3, none⟩ = some (.func (.func 99) #[] #[.pointer (some ⟨s.a2, 0, none⟩), .pointer (some ⟨s.n2, 0, none⟩)]) ∧ w.cell? ⟨s.r, 1, none⟩ = some (.func (.func 99) #[] #[.pointer (some ⟨s.a1, 0, none⟩), .pointer (some ⟨s.n1, 0, none⟩)]) := ⟨h.lof, h.nof⟩
theorem keep_one {s : Spot} {C F D : Nat → Int} {w : World} (h : Lies s C F D w) : w.cell? ⟨s.r, 1, none⟩ = some (.func (.func 99) #[] #[.pointer (some ⟨s.a1, 0, none⟩), .pointer (some ⟨s.n1, 0, none⟩)]) := h.nof
theorem keep_last {s : Spot} {C F D : Nat → Int} {w : World} (h : Lies s C F D w) : w.cell? ⟨s.r, 3, none⟩ = some (.func (.func 99) #[] #[.pointer (some ⟨s.a2, 0, none⟩), .pointer (some ⟨s.n2, 0, none⟩)]) := h.lof

set_option maxHeartbeats 4000000 in
theorem remove_any (s : Spot) (C F D : Nat → Int) (w : World) (hL : Lies s C F D w) (c : Int) (hc : Rng s.n c) (h1 : Rng s.n (D (c + 1).toNat)) (h2 : Rng s.n (D (c + 2).toNat)) :
    Calls Try.prog 79 #[.pointer (some ⟨s.r, 0, none⟩), .int .i64 c] w fun e w' => e = .returned (.tuple #[]) ∧ Lies s C F (removed D c) w' ∧ Turn s w w' := by
  obtain ⟨D', hD⟩ : ∃ D', removed D c = D' := ⟨_, rfl⟩
  rw [hD]
  have hn : ∀ w, Lies s C F D w → _ := fun w h => next_any s C F D w h c hc.1 hc.2
  have hl : ∀ w, Lies s C F D w → _ := fun w h => last_any s C F D w h c hc.1 hc.2
  have hj : ∀ w, Lies s C F D w → _ := fun w h => join_any s C F D w h (D (c + 2).toNat) (D (c + 1).toNat) h2.1 h2.2 h1.1 h1.2
  rw [show join D (D (c + 2).toNat) (D (c + 1).toNat) = D' from hD] at hj
  generalize D (c + 2).toNat = z at *
  generalize D (c + 1).toNat = y at *
  obtain ⟨c3, c1⟩ := keep_two hL
  have HN := Lib.hid hn
  have HL := Lib.hid hl
  have HJ := Lib.hid hj
  have H0 := Lib.hid (And.intro hL.drew (Turn.of_below (s := s) (Below.refl w.heap.size w).drew))
  clear hL hc hD h1 h2 hn hl hj
  go_enter Try.func79, Try.ntmps79
  go_wp2_with fail
  go_region_held3 (fun W' => W'.cell? ⟨s.r, 3, none⟩ = some (.func (.func 99) #[] #[.pointer (some ⟨s.a2, 0, none⟩), .pointer (some ⟨s.n2, 0, none⟩)]) ∧ W'.cell? ⟨s.r, 1, none⟩ = some (.func (.func 99) #[] #[.pointer (some ⟨s.a1, 0, none⟩), .pointer (some ⟨s.n1, 0, none⟩)]))
    (first
      | assumption
      | exact keep_two hk9
      | exact keep_two H0.out.1)
    (first
      | (go_at_call 99; refine (HL.out _ H0.out.1).mono ?_; rintro e w2 ⟨rfl, hk9, hq2⟩; have H2 := Lib.hid (And.intro hk9 (H0.out.2.trans hq2)); clear HL hq2)
      | (go_at_call 99; refine (HN.out _ H2.out.1).mono ?_; rintro e w3 ⟨rfl, hk9, hq3⟩; have H3 := Lib.hid (And.intro hk9 (H2.out.2.trans hq3)); clear HN hq3)
      | (go_at_call 98; refine (HJ.out _ H3.out.1).mono ?_; rintro e w4 ⟨rfl, hk9, hq4⟩; have H4 := Lib.hid (And.intro hk9 (H3.out.2.trans hq4)); clear hq4))
  go_wp2_with fail
  go_end0
  exact ⟨rfl, H4.out⟩


set_option maxHeartbeats 4000000 in
theorem leave_0 (s : Spot) (C F D : Nat → Int) (w : World) (hL : Lies s C F D w) (c : Int) (hc : Rng s.n c) (h0 : 0 ≤ C 0) (h1 : C 0 ≤ 1000) :
    Calls Try.prog 73 #[.pointer (some ⟨s.r, 0, none⟩), .int .i64 c, .int .i64 0] w fun e w' => e = .returned (.tuple #[]) ∧ Lies s (upd C 0 (C 0 - 1)) (leftF D F c 0) D w' ∧ Turn s w w' := by
  have c0 : w.cell? ⟨s.r, 5, none⟩ = some (.int .i64 (C 0)) := hL.count 0 (by decide)
  have f0 : w.cell? ⟨s.r, 9, none⟩ = some (.int .i64 (F 0)) := hL.first 0 (by decide)
  have z5 := hL.fz 5
  have z9 := hL.fz 9
  have c1' := hL.nof
  have hw : IntKind.i64.wrap (C 0 - 1) = C 0 - 1 := by rw [IntKind.wrap_i64]; omega
  have H1 := Lib.hid (And.intro (hL.setCount 0 (C 0 - 1) (by decide)).drew ((Turn.setR s 5 (.int .i64 (C 0 - 1)) w).then (c := (w.setCell ⟨s.r, 5, none⟩ (.int .i64 (C 0 - 1))).drew) (Below.refl _ _).drew))
  by_cases g : F 0 = c
  · have hF : leftF D F c 0 = upd F 0 (D (c + 1).toNat) := if_pos g
    rw [hF]
    subst g
    have hn : ∀ C w, Lies s C F D w → _ := fun C w h => next_any s C F D w h (F 0) hc.1 hc.2
    have HN := Lib.hid hn
    generalize hV : upd C 0 (C 0 - 1) = C' at H1
    generalize D (F 0 + 1).toNat = y at HN
    clear hL hF hc hn
    go_enter Try.func73, Try.ntmps73
    go_wp2_with fail
    go_region
    go_wp2_with fail
    have H2 := Lib.hid (And.intro H1.out.1.drew (H1.out.2.then (Below.refl _ _).drew))
    go_region_held3 (fun W' => W'.cell? ⟨s.r, 1, none⟩ = some (.func (.func 99) #[] #[.pointer (some ⟨s.a1, 0, none⟩), .pointer (some ⟨s.n1, 0, none⟩)]))
      (first
        | assumption
        | exact keep_one (H3.out.1.setFirst 0 y (by decide))
        | exact keep_one hk9
        | exact keep_one H1.out.1.drew)
      (first
        | (go_at_call 99; refine (HN.out C' _ H2.out.1).mono ?_; rintro e w2 ⟨rfl, hk9, hq2⟩; have H3 := Lib.hid (And.intro hk9 (H2.out.2.trans hq2)); have f9 : w2.cell? ⟨s.r, 9, none⟩ = some (.int .i64 (F 0)) := hk9.first 0 (by decide); have z9 := hk9.fz 9; clear HN hq2))
    have H4 := Lib.hid (And.intro (H3.out.1.setFirst 0 y (by decide)) (H3.out.2.trans (Turn.setR s 9 (.int .i64 y) _)))
    go_wp2_with fail
    go_end0
    exact ⟨rfl, H4.out⟩
  · have hF : leftF D F c 0 = F := if_neg g
    rw [hF]
    have g' : (F 0 == c) = false := by simpa using g
    generalize hV : upd C 0 (C 0 - 1) = C' at H1
    clear hL hF hc
    go_enter Try.func73, Try.ntmps73
    go_wp2_with fail
    go_region
    go_wp2_with fail
    go_end0
    exact ⟨rfl, H1.out⟩

set_option maxHeartbeats 4000000 in
theorem leave_1 (s : Spot) (C F D : Nat → Int) (w : World) (hL : Lies s C F D w) (c : Int) (hc : Rng s.n c) (h0 : 0 ≤ C 1) (h1 : C 1 ≤ 1000) :
    Calls Try.prog 73 #[.pointer (some ⟨s.r, 0, none⟩), .int .i64 c, .int .i64 1] w fun e w' => e = .returned (.tuple #[]) ∧ Lies s (upd C 1 (C 1 - 1)) (leftF D F c 1) D w' ∧ Turn s w w' := by
  have c1 : w.cell? ⟨s.r, 6, none⟩ = some (.int .i64 (C 1)) := hL.count 1 (by decide)
  have f1 : w.cell? ⟨s.r, 10, none⟩ = some (.int .i64 (F 1)) := hL.first 1 (by decide)
  have z6 := hL.fz 6
  have z10 := hL.fz 10
  have c1' := hL.nof
  have hw : IntKind.i64.wrap (C 1 - 1) = C 1 - 1 := by rw [IntKind.wrap_i64]; omega
  have H1 := Lib.hid (And.intro (hL.setCount 1 (C 1 - 1) (by decide)).drew ((Turn.setR s 6 (.int .i64 (C 1 - 1)) w).then (c := (w.setCell ⟨s.r, 6, none⟩ (.int .i64 (C 1 - 1))).drew) (Below.refl _ _).drew))
  by_cases g : F 1 = c
  · have hF : leftF D F c 1 = upd F 1 (D (c + 1).toNat) := if_pos g
    rw [hF]
    subst g
    have hn : ∀ C w, Lies s C F D w → _ := fun C w h => next_any s C F D w h (F 1) hc.1 hc.2
    have HN := Lib.hid hn
    generalize hV : upd C 1 (C 1 - 1) = C' at H1
    generalize D (F 1 + 1).toNat = y at HN
    clear hL hF hc hn
    go_enter Try.func73, Try.ntmps73
    go_wp2_with fail
    go_region
    go_wp2_with fail
    have H2 := Lib.hid (And.intro H1.out.1.drew (H1.out.2.then (Below.refl _ _).drew))
    go_region_held3 (fun W' => W'.cell? ⟨s.r, 1, none⟩ = some (.func (.func 99) #[] #[.pointer (some ⟨s.a1, 0, none⟩), .pointer (some ⟨s.n1, 0, none⟩)]))
      (first
        | assumption
        | exact keep_one (H3.out.1.setFirst 1 y (by decide))
        | exact keep_one hk9
        | exact keep_one H1.out.1.drew)
      (first
        | (go_at_call 99; refine (HN.out C' _ H2.out.1).mono ?_; rintro e w2 ⟨rfl, hk9, hq2⟩; have H3 := Lib.hid (And.intro hk9 (H2.out.2.trans hq2)); have f9 : w2.cell? ⟨s.r, 10, none⟩ = some (.int .i64 (F 1)) := hk9.first 1 (by decide); have z9 := hk9.fz 10; clear HN hq2))
    have H4 := Lib.hid (And.intro (H3.out.1.setFirst 1 y (by decide)) (H3.out.2.trans (Turn.setR s 10 (.int .i64 y) _)))
    go_wp2_with fail
    go_end0
    exact ⟨rfl, H4.out⟩
  · have hF : leftF D F c 1 = F := if_neg g
    rw [hF]
    have g' : (F 1 == c) = false := by simpa using g
    generalize hV : upd C 1 (C 1 - 1) = C' at H1
    clear hL hF hc
    go_enter Try.func73, Try.ntmps73
    go_wp2_with fail
    go_region
    go_wp2_with fail
    go_end0
    exact ⟨rfl, H1.out⟩

set_option maxHeartbeats 4000000 in
theorem enterFirst_0 (s : Spot) (C F D : Nat → Int) (w : World) (hL : Lies s C F D w) (c : Int) (h0 : 0 ≤ C 0) (h1 : C 0 ≤ 1000) :
    Calls Try.prog 72 #[.pointer (some ⟨s.r, 0, none⟩), .int .i64 c, .int .i64 0] w fun e w' => e = .returned (.tuple #[]) ∧ Lies s (upd C 0 (C 0 + 1)) (upd F 0 c) D w' ∧ Turn s w w' := by
  have c0 : w.cell? ⟨s.r, 5, none⟩ = some (.int .i64 (C 0)) := hL.count 0 (by decide)
  have f0 : w.cell? ⟨s.r, 9, none⟩ = some (.int .i64 (F 0)) := hL.first 0 (by decide)
  have z5 := hL.fz 5
  have z9 := hL.fz 9
  have hw : IntKind.i64.wrap (C 0 + 1) = C 0 + 1 := by rw [IntKind.wrap_i64]; omega
  have H1 := Lib.hid (And.intro ((hL.setFirst 0 c (by decide)).setCount 0 (C 0 + 1) (by decide)).drew (((Turn.setR s 9 (.int .i64 c) w).trans (Turn.setR s 5 (.int .i64 (C 0 + 1)) _)).then (c := ((w.setCell ⟨s.r, 9, none⟩ (.int .i64 c)).setCell ⟨s.r, 5, none⟩ (.int .i64 (C 0 + 1))).drew) (Below.refl _ _).drew))
  generalize hV : upd C 0 (C 0 + 1) = C' at H1
  generalize hG : upd F 0 c = F' at H1
  clear hL
  go_enter Try.func72, Try.ntmps72
  go_wp2_with fail
  go_region
  go_wp2_with fail
  go_end0
  exact ⟨rfl, H1.out⟩

set_option maxHeartbeats 4000000 in
theorem enterFirst_3 (s : Spot) (C F D : Nat → Int) (w : World) (hL : Lies s C F D w) (c : Int) (h0 : 0 ≤ C 3) (h1 : C 3 ≤ 1000) :
    Calls Try.prog 72 #[.pointer (some ⟨s.r, 0, none⟩), .int .i64 c, .int .i64 3] w fun e w' => e = .returned (.tuple #[]) ∧ Lies s (upd C 3 (C 3 + 1)) (upd F 3 c) D w' ∧ Turn s w w' := by
  have c3 : w.cell? ⟨s.r, 8, none⟩ = some (.int .i64 (C 3)) := hL.count 3 (by decide)
  have f3 : w.cell? ⟨s.r, 12, none⟩ = some (.int .i64 (F 3)) := hL.first 3 (by decide)
  have z8 := hL.fz 8
  have z12 := hL.fz 12
  have hw : IntKind.i64.wrap (C 3 + 1) = C 3 + 1 := by rw [IntKind.wrap_i64]; omega
  have H1 := Lib.hid (And.intro ((hL.setFirst 3 c (by decide)).setCount 3 (C 3 + 1) (by decide)).drew (((Turn.setR s 12 (.int .i64 c) w).trans (Turn.setR s 8 (.int .i64 (C 3 + 1)) _)).then (c := ((w.setCell ⟨s.r, 12, none⟩ (.int .i64 c)).setCell ⟨s.r, 8, none⟩ (.int .i64 (C 3 + 1))).drew) (Below.refl _ _).drew))
  generalize hV : upd C 3 (C 3 + 1) = C' at H1
  generalize hG : upd F 3 c = F' at H1
  clear hL
  go_enter Try.func72, Try.ntmps72
  go_wp2_with fail
  go_region
  go_wp2_with fail
  go_end0
  exact ⟨rfl, H1.out⟩

set_option maxHeartbeats 4000000 in
theorem enterLast_2 (s : Spot) (C F D : Nat → Int) (w : World) (hL : Lies s C F D w) (c : Int) (h0 : 0 ≤ C 2) (h1 : C 2 ≤ 1000) :
    Calls Try.prog 74 #[.pointer (some ⟨s.r, 0, none⟩), .int .i64 c, .int .i64 2] w fun e w' => e = .returned (.tuple #[]) ∧ Lies s (upd C 2 (C 2 + 1)) (lastF C F c 2) D w' ∧ Turn s w w' := by
  have c2 : w.cell? ⟨s.r, 7, none⟩ = some (.int .i64 (C 2)) := hL.count 2 (by decide)
  have f2 : w.cell? ⟨s.r, 11, none⟩ = some (.int .i64 (F 2)) := hL.first 2 (by decide)
  have z7 := hL.fz 7
  have z11 := hL.fz 11
  have hw : IntKind.i64.wrap (C 2 + 1) = C 2 + 1 := by rw [IntKind.wrap_i64]; omega
  by_cases g : C 2 = 0
  · have hF : lastF C F c 2 = upd F 2 c := if_pos g
    rw [hF]
    have g' : (C 2 == 0) = true := by simpa using g
    have H1 := Lib.hid (And.intro ((hL.setFirst 2 c (by decide)).setCount 2 (C 2 + 1) (by decide)).drew (((Turn.setR s 11 (.int .i64 c) w).trans (Turn.setR s 7 (.int .i64 (C 2 + 1)) _)).then (c := ((w.setCell ⟨s.r, 11, none⟩ (.int .i64 c)).setCell ⟨s.r, 7, none⟩ (.int .i64 (C 2 + 1))).drew) (Below.refl _ _).drew))
    generalize hV : upd C 2 (C 2 + 1) = C' at H1
    generalize hG : upd F 2 c = F' at H1
    clear hL hF g
    go_enter Try.func74, Try.ntmps74
    go_wp2_with fail
    go_region
    go_wp2_with fail
    go_end0
    exact ⟨rfl, H1.out⟩
  · have hF : lastF C F c 2 = F := if_neg g
    rw [hF]
    have g' : (C 2 == 0) = false := by simpa using g
    have H1 := Lib.hid (And.intro (hL.setCount 2 (C 2 + 1) (by decide)).drew ((Turn.setR s 7 (.int .i64 (C 2 + 1)) w).then (c := (w.setCell ⟨s.r, 7, none⟩ (.int .i64 (C 2 + 1))).drew) (Below.refl _ _).drew))
    generalize hV : upd C 2 (C 2 + 1) = C' at H1
    clear hL hF g
    go_enter Try.func74, Try.ntmps74
    go_wp2_with fail
    go_region
    go_wp2_with fail
    go_end0
    exact ⟨rfl, H1.out⟩

set_option maxHeartbeats 4000000 in
theorem enterLast_3 (s : Spot) (C F D : Nat → Int) (w : World) (hL : Lies s C F D w) (c : Int) (h0 : 0 ≤ C 3) (h1 : C 3 ≤ 1000) :
    Calls Try.prog 74 #[.pointer (some ⟨s.r, 0, none⟩), .int .i64 c, .int .i64 3] w fun e w' => e = .returned (.tuple #[]) ∧ Lies s (upd C 3 (C 3 + 1)) (lastF C F c 3) D w' ∧ Turn s w w' := by
  have c3 : w.cell? ⟨s.r, 8, none⟩ = some (.int .i64 (C 3)) := hL.count 3 (by decide)
  have f3 : w.cell? ⟨s.r, 12, none⟩ = some (.int .i64 (F 3)) := hL.first 3 (by decide)
  have z8 := hL.fz 8
  have z12 := hL.fz 12
  have hw : IntKind.i64.wrap (C 3 + 1) = C 3 + 1 := by rw [IntKind.wrap_i64]; omega
  by_cases g : C 3 = 0
  · have hF : lastF C F c 3 = upd F 3 c := if_pos g
    rw [hF]
    have g' : (C 3 == 0) = true := by simpa using g
    have H1 := Lib.hid (And.intro ((hL.setFirst 3 c (by decide)).setCount 3 (C 3 + 1) (by decide)).drew (((Turn.setR s 12 (.int .i64 c) w).trans (Turn.setR s 8 (.int .i64 (C 3 + 1)) _)).then (c := ((w.setCell ⟨s.r, 12, none⟩ (.int .i64 c)).setCell ⟨s.r, 8, none⟩ (.int .i64 (C 3 + 1))).drew) (Below.refl _ _).drew))
    generalize hV : upd C 3 (C 3 + 1) = C' at H1
    generalize hG : upd F 3 c = F' at H1
    clear hL hF g
    go_enter Try.func74, Try.ntmps74
    go_wp2_with fail
    go_region
    go_wp2_with fail
    go_end0
    exact ⟨rfl, H1.out⟩
  · have hF : lastF C F c 3 = F := if_neg g
    rw [hF]
    have g' : (C 3 == 0) = false := by simpa using g
    have H1 := Lib.hid (And.intro (hL.setCount 3 (C 3 + 1) (by decide)).drew ((Turn.setR s 8 (.int .i64 (C 3 + 1)) w).then (c := (w.setCell ⟨s.r, 8, none⟩ (.int .i64 (C 3 + 1))).drew) (Below.refl _ _).drew))
    generalize hV : upd C 3 (C 3 + 1) = C' at H1
    clear hL hF g
    go_enter Try.func74, Try.ntmps74
    go_wp2_with fail
    go_region
    go_wp2_with fail
    go_end0
    exact ⟨rfl, H1.out⟩

set_option maxHeartbeats 4000000 in
theorem recolour_31 (s : Spot) (C F D : Nat → Int) (w : World) (hL : Lies s C F D w) (h0 : 0 ≤ C 3) (h1 : C 3 ≤ 1000) (h2 : 0 ≤ C 1) (h3 : C 1 ≤ 1000) :
    Calls Try.prog 75 #[.pointer (some ⟨s.r, 0, none⟩), .int .i64 3, .int .i64 1] w fun e w' => e = .returned (.tuple #[]) ∧ Lies s (upd (upd C 1 (C 1 + C 3)) 3 0) (lastF C F (F 3) 1) D w' ∧ Turn s w w' := by
  have c3 : w.cell? ⟨s.r, 8, none⟩ = some (.int .i64 (C 3)) := hL.count 3 (by decide)
  have c1 : w.cell? ⟨s.r, 6, none⟩ = some (.int .i64 (C 1)) := hL.count 1 (by decide)
  have f3 : w.cell? ⟨s.r, 12, none⟩ = some (.int .i64 (F 3)) := hL.first 3 (by decide)
  have f1 : w.cell? ⟨s.r, 10, none⟩ = some (.int .i64 (F 1)) := hL.first 1 (by decide)
  have z8 := hL.fz 8
  have z6 := hL.fz 6
  have z12 := hL.fz 12
  have z10 := hL.fz 10
  have hw : IntKind.i64.wrap (C 1 + C 3) = C 1 + C 3 := by rw [IntKind.wrap_i64]; omega
  by_cases g : C 1 = 0
  · have hF : lastF C F (F 3) 1 = upd F 1 (F 3) := if_pos g
    rw [hF]
    have g' : (C 1 == 0) = true := by simpa using g
    have H1 := Lib.hid (And.intro (((hL.setFirst 1 (F 3) (by decide)).setCount 1 (C 1 + C 3) (by decide)).setCount 3 0 (by decide)).drew.drew ((((Turn.setR s 10 (.int .i64 (F 3)) w).trans (Turn.setR s 6 (.int .i64 (C 1 + C 3)) _)).trans (Turn.setR s 8 (.int .i64 0) _)).then (c := (((w.setCell ⟨s.r, 10, none⟩ (.int .i64 (F 3))).setCell ⟨s.r, 6, none⟩ (.int .i64 (C 1 + C 3))).setCell ⟨s.r, 8, none⟩ (.int .i64 0)).drew.drew) (Below.refl _ _).drew.drew))
    generalize hV : upd (upd C 1 (C 1 + C 3)) 3 0 = C' at H1
    generalize hG : upd F 1 (F 3) = F' at H1
    clear hL hF g
    go_enter Try.func75, Try.ntmps75
    go_wp2_with fail
    go_region
    go_wp2_with fail
    go_region
    go_wp2_with fail
    go_end0
    exact ⟨rfl, H1.out⟩
  · have hF : lastF C F (F 3) 1 = F := if_neg g
    rw [hF]
    have g' : (C 1 == 0) = false := by simpa using g
    have H1 := Lib.hid (And.intro ((hL.setCount 1 (C 1 + C 3) (by decide)).setCount 3 0 (by decide)).drew (((Turn.setR s 6 (.int .i64 (C 1 + C 3)) w).trans (Turn.setR s 8 (.int .i64 0) _)).then (c := ((w.setCell ⟨s.r, 6, none⟩ (.int .i64 (C 1 + C 3))).setCell ⟨s.r, 8, none⟩ (.int .i64 0)).drew) (Below.refl _ _).drew))
    generalize hV : upd (upd C 1 (C 1 + C 3)) 3 0 = C' at H1
    clear hL hF g
    go_enter Try.func75, Try.ntmps75
    go_wp2_with fail
    go_region
    go_wp2_with fail
    go_end0
    exact ⟨rfl, H1.out⟩

set_option maxHeartbeats 4000000 in
theorem recolour_10 (s : Spot) (C F D : Nat → Int) (w : World) (hL : Lies s C F D w) (h0 : 0 ≤ C 1) (h1 : C 1 ≤ 1000) (h2 : 0 ≤ C 0) (h3 : C 0 ≤ 1000) :
    Calls Try.prog 75 #[.pointer (some ⟨s.r, 0, none⟩), .int .i64 1, .int .i64 0] w fun e w' => e = .returned (.tuple #[]) ∧ Lies s (upd (upd C 0 (C 0 + C 1)) 1 0) (lastF C F (F 1) 0) D w' ∧ Turn s w w' := by
  have c1 : w.cell? ⟨s.r, 6, none⟩ = some (.int .i64 (C 1)) := hL.count 1 (by decide)
  have c0 : w.cell? ⟨s.r, 5, none⟩ = some (.int .i64 (C 0)) := hL.count 0 (by decide)
  have f1 : w.cell? ⟨s.r, 10, none⟩ = some (.int .i64 (F 1)) := hL.first 1 (by decide)
  have f0 : w.cell? ⟨s.r, 9, none⟩ = some (.int .i64 (F 0)) := hL.first 0 (by decide)
  have z6 := hL.fz 6
  have z5 := hL.fz 5
  have z10 := hL.fz 10
  have z9 := hL.fz 9
  have hw : IntKind.i64.wrap (C 0 + C 1) = C 0 + C 1 := by rw [IntKind.wrap_i64]; omega
  by_cases g : C 0 = 0
  · have hF : lastF C F (F 1) 0 = upd F 0 (F 1) := if_pos g
    rw [hF]
    have g' : (C 0 == 0) = true := by simpa using g
    have H1 := Lib.hid (And.intro (((hL.setFirst 0 (F 1) (by decide)).setCount 0 (C 0 + C 1) (by decide)).setCount 1 0 (by decide)).drew.drew ((((Turn.setR s 9 (.int .i64 (F 1)) w).trans (Turn.setR s 5 (.int .i64 (C 0 + C 1)) _)).trans (Turn.setR s 6 (.int .i64 0) _)).then (c := (((w.setCell ⟨s.r, 9, none⟩ (.int .i64 (F 1))).setCell ⟨s.r, 5, none⟩ (.int .i64 (C 0 + C 1))).setCell ⟨s.r, 6, none⟩ (.int .i64 0)).drew.drew) (Below.refl _ _).drew.drew))
    generalize hV : upd (upd C 0 (C 0 + C 1)) 1 0 = C' at H1
    generalize hG : upd F 0 (F 1) = F' at H1
    clear hL hF g
    go_enter Try.func75, Try.ntmps75
    go_wp2_with fail
    go_region
    go_wp2_with fail
    go_region
    go_wp2_with fail
    go_end0
    exact ⟨rfl, H1.out⟩
  · have hF : lastF C F (F 1) 0 = F := if_neg g
    rw [hF]
    have g' : (C 0 == 0) = false := by simpa using g
    have H1 := Lib.hid (And.intro ((hL.setCount 0 (C 0 + C 1) (by decide)).setCount 1 0 (by decide)).drew (((Turn.setR s 5 (.int .i64 (C 0 + C 1)) w).trans (Turn.setR s 6 (.int .i64 0) _)).then (c := ((w.setCell ⟨s.r, 5, none⟩ (.int .i64 (C 0 + C 1))).setCell ⟨s.r, 6, none⟩ (.int .i64 0)).drew) (Below.refl _ _).drew))
    generalize hV : upd (upd C 0 (C 0 + C 1)) 1 0 = C' at H1
    clear hL hF g
    go_enter Try.func75, Try.ntmps75
    go_wp2_with fail
    go_region
    go_wp2_with fail
    go_end0
    exact ⟨rfl, H1.out⟩

end Go.Proofs.Ythcgmfcibjinlaa
