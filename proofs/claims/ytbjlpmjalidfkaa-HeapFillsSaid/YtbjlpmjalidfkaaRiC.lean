/- A ring as it lies; its links, by its closures; two cells joined. -/
import Derived.Test.YtbjlpmjalidfkaaRiB
import Derived.Lib.Hide
import Derived.BigQuiet
import Derived.Deep.QuietTactic
namespace Go.Proofs.Ytbjlpmjalidfkaa
open Go.RowKit

/-- Where a ring lies: its struct, its arena, the arena's words, how many; what its links' closures have captured. -/
structure Spot where
  r : Nat
  p : Nat
  d : Nat
  n : Nat
  a1 : Nat
  n1 : Nat
  a2 : Nat
  n2 : Nat

/-- Nothing that was there has turned but a ring, its arena, its words. -/
structure Turn (s : Spot) (w w' : World) : Prop where
  os : w'.os = w.os
  tape : w'.tape = w.tape
  output : w'.output = w.output
  size : w.heap.size ≤ w'.heap.size
  block : ∀ k, k < w.heap.size → k ≠ s.r → k ≠ s.p → k ≠ s.d → w'.heap[k]? = w.heap[k]?

theorem Turn.refl (s : Spot) (w : World) : Turn s w w := ⟨rfl, rfl, rfl, Nat.le_refl _, fun _ _ _ _ _ => rfl⟩
theorem Turn.trans {s : Spot} {a b c : World} (h : Turn s a b) (k : Turn s b c) : Turn s a c :=
  ⟨k.os.trans h.os, k.tape.trans h.tape, k.output.trans h.output, Nat.le_trans h.size k.size, fun i hi h1 h2 h3 => (k.block i (Nat.lt_of_lt_of_le hi h.size) h1 h2 h3).trans (h.block i hi h1 h2 h3)⟩
theorem Turn.of_apart {s : Spot} {w w' : World} (h : Apart s.p s.d w w') : Turn s w w' := ⟨h.os, h.tape, h.output, h.size, fun k hk _ h2 h3 => h.block k hk h2 h3⟩
theorem Turn.of_below {s : Spot} {w w' : World} (h : Below w.heap.size w w') : Turn s w w' := ⟨h.os, h.tape, h.output, h.size, fun k hk _ _ _ => h.block k hk⟩
theorem Turn.setR (s : Spot) (i : Nat) (v : Value) (w : World) : Turn s w (w.setCell ⟨s.r, i, none⟩ v) :=
  ⟨rfl, rfl, rfl, by simp [World.setCell], fun k _ h _ _ => Below.heap_setCell _ _ _ _ h⟩
theorem Turn.then {s : Spot} {a b c : World} (h : Turn s a b) (k : Below a.heap.size b c) : Turn s a c :=
  ⟨k.os.trans h.os, k.tape.trans h.tape, k.output.trans h.output, Nat.le_trans h.size k.size, fun i hi h1 h2 h3 => (k.block i hi).trans (h.block i hi h1 h2 h3)⟩
theorem Turn.below {s : Spot} {B : Nat} {w w' : World} (h : Turn s w w') (hr : B ≤ s.r) (hp : B ≤ s.p) (hd : B ≤ s.d) (hB : B ≤ w.heap.size) : Below B w w' :=
  ⟨h.os, h.tape, h.output, h.size, fun k hk => h.block k (by omega) (by omega) (by omega) (by omega)⟩
theorem Turn.cell {s : Spot} {w w' : World} (h : Turn s w w') {a : Addr} {v : Value} (hc : w.cell? a = some v) (h1 : a.block ≠ s.r) (h2 : a.block ≠ s.p) (h3 : a.block ≠ s.d) : w'.cell? a = some v :=
  (World.cell?_of_block (w := w) (h.block a.block (World.block_lt_of_cell? _ _ hc) h1 h2 h3)).trans hc
theorem Turn.frozen {s : Spot} {w w' : World} (h : Turn s w w') {a : Addr} (hl : a.block < w.heap.size) (h1 : a.block ≠ s.r) (h2 : a.block ≠ s.p) (h3 : a.block ≠ s.d) : w'.frozen? a = w.frozen? a :=
  World.frozen?_of_block (w := w) (h.block a.block hl h1 h2 h3)

/-- A RING AS IT LIES. -/
structure Lies (s : Spot) (C F D : Nat → Int) (w : World) : Prop where
  arena : w.cell? ⟨s.r, 0, none⟩ = some (.pointer (some ⟨s.p, 0, none⟩))
  nof : w.cell? ⟨s.r, 1, none⟩ = some (.func (.func 99) #[] #[.pointer (some ⟨s.a1, 0, none⟩), .pointer (some ⟨s.n1, 0, none⟩)])
  nset : w.cell? ⟨s.r, 2, none⟩ = some (.func (.func 100) #[] #[.pointer (some ⟨s.a1, 0, none⟩), .pointer (some ⟨s.n1, 0, none⟩)])
  lof : w.cell? ⟨s.r, 3, none⟩ = some (.func (.func 99) #[] #[.pointer (some ⟨s.a2, 0, none⟩), .pointer (some ⟨s.n2, 0, none⟩)])
  lset : w.cell? ⟨s.r, 4, none⟩ = some (.func (.func 100) #[] #[.pointer (some ⟨s.a2, 0, none⟩), .pointer (some ⟨s.n2, 0, none⟩)])
  count : ∀ k, k < 4 → w.cell? ⟨s.r, 5 + k, none⟩ = some (.int .i64 (C k))
  first : ∀ k, k < 4 → w.cell? ⟨s.r, 9 + k, none⟩ = some (.int .i64 (F k))
  fz : ∀ j, w.frozen? ⟨s.r, j, none⟩ = false
  ba1 : w.cell? ⟨s.a1, 0, none⟩ = some (.pointer (some ⟨s.p, 0, none⟩))
  bn1 : w.cell? ⟨s.n1, 0, none⟩ = some (.int .i64 1)
  ba2 : w.cell? ⟨s.a2, 0, none⟩ = some (.pointer (some ⟨s.p, 0, none⟩))
  bn2 : w.cell? ⟨s.n2, 0, none⟩ = some (.int .i64 2)
  words : ∃ u, At w s.p s.d s.n D u
  nb : s.n ≤ 65536
  rp : s.r ≠ s.p
  rd : s.r ≠ s.d
  a1' : s.a1 ≠ s.r ∧ s.a1 ≠ s.p ∧ s.a1 ≠ s.d
  n1' : s.n1 ≠ s.r ∧ s.n1 ≠ s.p ∧ s.n1 ≠ s.d
  a2' : s.a2 ≠ s.r ∧ s.a2 ≠ s.p ∧ s.a2 ≠ s.d
  n2' : s.n2 ≠ s.r ∧ s.n2 ≠ s.p ∧ s.n2 ≠ s.d

section
variable {s : Spot} {C F D : Nat → Int} {w w' : World}
theorem Lies.lr (h : Lies s C F D w) : s.r < w.heap.size := World.block_lt_of_cell? _ _ h.arena
theorem Lies.lp (h : Lies s C F D w) : s.p < w.heap.size := h.words.elim fun _ h => h.lp
theorem Lies.ld (h : Lies s C F D w) : s.d < w.heap.size := h.words.elim fun _ h => h.ld
theorem Lies.apart (h : Lies s C F D w) {D' : Nat → Int} {u : Int} (hq : Apart s.p s.d w w') (hA : At w' s.p s.d s.n D' u) : Lies s C F D' w' :=
  ⟨hq.cell h.arena h.rp h.rd, hq.cell h.nof h.rp h.rd, hq.cell h.nset h.rp h.rd, hq.cell h.lof h.rp h.rd, hq.cell h.lset h.rp h.rd,
    fun k hk => hq.cell (h.count k hk) h.rp h.rd, fun k hk => hq.cell (h.first k hk) h.rp h.rd, fun j => (hq.frozen h.lr h.rp h.rd).trans (h.fz j),
    hq.cell h.ba1 h.a1'.2.1 h.a1'.2.2, hq.cell h.bn1 h.n1'.2.1 h.n1'.2.2, hq.cell h.ba2 h.a2'.2.1 h.a2'.2.2, hq.cell h.bn2 h.n2'.2.1 h.n2'.2.2,
    ⟨u, hA⟩, h.nb, h.rp, h.rd, h.a1', h.n1', h.a2', h.n2'⟩
theorem Lies.later (h : Lies s C F D w) (hb : Below w.heap.size w w') : Lies s C F D w' := by
  obtain ⟨u, hu⟩ := h.words
  exact h.apart (Apart.of_below hb) (hu.later hb)
theorem Lies.drew (h : Lies s C F D w) : Lies s C F D w.drew := h.later (Below.refl _ _).drew

theorem Lies.setCount (h : Lies s C F D w) (k : Nat) (v : Int) (hk : k < 4) : Lies s (upd C k v) F D (w.setCell ⟨s.r, 5 + k, none⟩ (.int .i64 v)) := by
  obtain ⟨u, hu⟩ := h.words
  have o : ∀ (a : Addr) (x : Value), w.cell? a = some x → a ≠ ⟨s.r, 5 + k, none⟩ → (w.setCell ⟨s.r, 5 + k, none⟩ (.int .i64 v)).cell? a = some x := fun a x hc hn => (World.cell?_setCell_other _ _ _ _ (Ne.symm hn)).trans hc
  have b : ∀ {a : Addr}, a.block ≠ s.r → a ≠ ⟨s.r, 5 + k, none⟩ := fun hb e => hb (by rw [e])
  have f : ∀ {j : Nat}, j ≠ 5 + k → (⟨s.r, j, none⟩ : Addr) ≠ ⟨s.r, 5 + k, none⟩ := fun _ => by simp
  refine ⟨o _ _ h.arena (f (by omega)), o _ _ h.nof (f (by omega)), o _ _ h.nset (f (by omega)), o _ _ h.lof (f (by omega)), o _ _ h.lset (f (by omega)), fun j hj => ?_, fun j hj => o _ _ (h.first j hj) (f (by omega)),
    fun j => (World.frozen?_setCell _ _ _ _).trans (h.fz j), o _ _ h.ba1 (b h.a1'.1), o _ _ h.bn1 (b h.n1'.1), o _ _ h.ba2 (b h.a2'.1), o _ _ h.bn2 (b h.n2'.1),
    ⟨u, hu.move (Below.heap_setCell _ _ _ _ (Ne.symm h.rp)) (Below.heap_setCell _ _ _ _ (Ne.symm h.rd)) (by simp [World.setCell])⟩, h.nb, h.rp, h.rd, h.a1', h.n1', h.a2', h.n2'⟩
  by_cases e : j = k
  · subst e
    simp only [upd, if_true]
    exact World.cell?_setCell_same _ _ _ (h.count j hj)
  · simp only [upd, e, if_false]
    exact o _ _ (h.count j hj) (f (by omega))

theorem Lies.setFirst (h : Lies s C F D w) (k : Nat) (v : Int) (hk : k < 4) : Lies s C (upd F k v) D (w.setCell ⟨s.r, 9 + k, none⟩ (.int .i64 v)) := by
  obtain ⟨u, hu⟩ := h.words
  have o : ∀ (a : Addr) (x : Value), w.cell? a = some x → a ≠ ⟨s.r, 9 + k, none⟩ → (w.setCell ⟨s.r, 9 + k, none⟩ (.int .i64 v)).cell? a = some x := fun a x hc hn => (World.cell?_setCell_other _ _ _ _ (Ne.symm hn)).trans hc
  have b : ∀ {a : Addr}, a.block ≠ s.r → a ≠ ⟨s.r, 9 + k, none⟩ := fun hb e => hb (by rw [e])
  have f : ∀ {j : Nat}, j ≠ 9 + k → (⟨s.r, j, none⟩ : Addr) ≠ ⟨s.r, 9 + k, none⟩ := fun _ => by simp
  refine ⟨o _ _ h.arena (f (by omega)), o _ _ h.nof (f (by omega)), o _ _ h.nset (f (by omega)), o _ _ h.lof (f (by omega)), o _ _ h.lset (f (by omega)), fun j hj => o _ _ (h.count j hj) (f (by omega)), fun j hj => ?_,
    fun j => (World.frozen?_setCell _ _ _ _).trans (h.fz j), o _ _ h.ba1 (b h.a1'.1), o _ _ h.bn1 (b h.n1'.1), o _ _ h.ba2 (b h.a2'.1), o _ _ h.bn2 (b h.n2'.1),
    ⟨u, hu.move (Below.heap_setCell _ _ _ _ (Ne.symm h.rp)) (Below.heap_setCell _ _ _ _ (Ne.symm h.rd)) (by simp [World.setCell])⟩, h.nb, h.rp, h.rd, h.a1', h.n1', h.a2', h.n2'⟩
  by_cases e : j = k
  · subst e
    simp only [upd, if_true]
    exact World.cell?_setCell_same _ _ _ (h.first j hj)
  · simp only [upd, e, if_false]
    exact o _ _ (h.first j hj) (f (by omega))
end

set_option maxHeartbeats 1000000 in
/-- What a link's closure answers. -/
theorem of_any (s : Spot) (C F D : Nat → Int) (w : World) (hL : Lies s C F D w) (a b k : Nat) (c : Int) (ha : w.cell? ⟨a, 0, none⟩ = some (.pointer (some ⟨s.p, 0, none⟩))) (hk : w.cell? ⟨b, 0, none⟩ = some (.int .i64 k)) (h0 : 1 ≤ c) (h1 : c + 3 ≤ s.n) (h2 : k ≤ 2) :
    Calls Try.prog 99 #[.int .i64 c, .pointer (some ⟨a, 0, none⟩), .pointer (some ⟨b, 0, none⟩)] w fun e w' => e = .returned (.int .i64 (D (c + k).toNat)) ∧ Lies s C F D w' ∧ Turn s w w' := by
  obtain ⟨u, hA⟩ := hL.words
  have hn := hL.nb
  have hw : IntKind.i64.wrap (c + k) = c + k := by rw [IntKind.wrap_i64]; omega
  have hw' : wrap64 (c + k) = c + k := by unfold wrap64; omega
  have HL := Lib.hid hL
  have HA := Lib.hid hA
  clear hL hA
  go_enter Try.func99, Try.ntmps99
  go_wp2_with fail
  refine (load_in s.p s.d s.n D u (c + k) w HA.out (by omega) (by omega)).mono ?_
  rintro e w2 ⟨rfl, hA2, hq⟩
  have HE := Lib.hid (And.intro (HL.out.apart hq hA2) (Turn.of_apart hq))
  clear hA2 hq
  go_wp2_with fail
  go_ret
  exact ⟨rfl, HE.out⟩

set_option maxHeartbeats 1000000 in
/-- What a link's other closure does. -/
theorem set_any (s : Spot) (C F D : Nat → Int) (w : World) (hL : Lies s C F D w) (a b k : Nat) (c x : Int) (ha : w.cell? ⟨a, 0, none⟩ = some (.pointer (some ⟨s.p, 0, none⟩))) (hk : w.cell? ⟨b, 0, none⟩ = some (.int .i64 k)) (h0 : 1 ≤ c) (h1 : c + 3 ≤ s.n) (h2 : k ≤ 2) :
    Calls Try.prog 100 #[.int .i64 c, .int .i64 x, .pointer (some ⟨a, 0, none⟩), .pointer (some ⟨b, 0, none⟩)] w fun e w' => e = .returned (.tuple #[]) ∧ Lies s C F (put D (c + k) x) w' ∧ Turn s w w' := by
  obtain ⟨u, hA⟩ := hL.words
  have hn := hL.nb
  have hw : IntKind.i64.wrap (c + k) = c + k := by rw [IntKind.wrap_i64]; omega
  have hw' : wrap64 (c + k) = c + k := by unfold wrap64; omega
  have HL := Lib.hid hL
  have HA := Lib.hid hA
  clear hL hA
  go_enter Try.func100, Try.ntmps100
  go_wp2_with fail
  refine (store_in s.p s.d s.n D u (c + k) x w HA.out (by omega) (by omega)).mono ?_
  rintro e w2 ⟨rfl, hA2, hq⟩
  have HE : Hid (Lies s C F (put D (c + k) x) w2 ∧ Turn s w w2) := Lib.hid (And.intro (HL.out.apart hq hA2) (Turn.of_apart hq))
  clear hA2 hq
  go_wp2_with fail
  go_end0
  exact ⟨rfl, HE.out⟩

theorem next_any (s : Spot) (C F D : Nat → Int) (w : World) (hL : Lies s C F D w) (c : Int) (h0 : 1 ≤ c) (h1 : c + 3 ≤ s.n) :
    Calls Try.prog 99 #[.int .i64 c, .pointer (some ⟨s.a1, 0, none⟩), .pointer (some ⟨s.n1, 0, none⟩)] w fun e w' => e = .returned (.int .i64 (D (c + 1).toNat)) ∧ Lies s C F D w' ∧ Turn s w w' :=
  of_any s C F D w hL s.a1 s.n1 1 c hL.ba1 hL.bn1 h0 h1 (by omega)
theorem last_any (s : Spot) (C F D : Nat → Int) (w : World) (hL : Lies s C F D w) (c : Int) (h0 : 1 ≤ c) (h1 : c + 3 ≤ s.n) :
    Calls Try.prog 99 #[.int .i64 c, .pointer (some ⟨s.a2, 0, none⟩), .pointer (some ⟨s.n2, 0, none⟩)] w fun e w' => e = .returned (.int .i64 (D (c + 2).toNat)) ∧ Lies s C F D w' ∧ Turn s w w' :=
  of_any s C F D w hL s.a2 s.n2 2 c hL.ba2 hL.bn2 h0 h1 (by omega)
theorem setNext_any (s : Spot) (C F D : Nat → Int) (w : World) (hL : Lies s C F D w) (c x : Int) (h0 : 1 ≤ c) (h1 : c + 3 ≤ s.n) :
    Calls Try.prog 100 #[.int .i64 c, .int .i64 x, .pointer (some ⟨s.a1, 0, none⟩), .pointer (some ⟨s.n1, 0, none⟩)] w fun e w' => e = .returned (.tuple #[]) ∧ Lies s C F (put D (c + 1) x) w' ∧ Turn s w w' :=
  set_any s C F D w hL s.a1 s.n1 1 c x hL.ba1 hL.bn1 h0 h1 (by omega)
theorem setLast_any (s : Spot) (C F D : Nat → Int) (w : World) (hL : Lies s C F D w) (c x : Int) (h0 : 1 ≤ c) (h1 : c + 3 ≤ s.n) :
    Calls Try.prog 100 #[.int .i64 c, .int .i64 x, .pointer (some ⟨s.a2, 0, none⟩), .pointer (some ⟨s.n2, 0, none⟩)] w fun e w' => e = .returned (.tuple #[]) ∧ Lies s C F (put D (c + 2) x) w' ∧ Turn s w w' :=
  set_any s C F D w hL s.a2 s.n2 2 c x hL.ba2 hL.bn2 h0 h1 (by omega)

set_option maxHeartbeats 1000000 in
/-- join. -/
theorem join_any (s : Spot) (C F D : Nat → Int) (w : World) (hL : Lies s C F D w) (a b : Int) (h0 : 1 ≤ a) (h1 : a + 3 ≤ s.n) (h2 : 1 ≤ b) (h3 : b + 3 ≤ s.n) :
    Calls Try.prog 98 #[.pointer (some ⟨s.r, 0, none⟩), .int .i64 a, .int .i64 b] w fun e w' => e = .returned (.tuple #[]) ∧ Lies s C F (join D a b) w' ∧ Turn s w w' := by
  have c2 := hL.nset
  have HL := Lib.hid hL
  clear hL
  go_enter Try.func98, Try.ntmps98
  go_wp2_with fail
  refine (setNext_any s C F D w HL.out a b h0 h1).mono ?_
  rintro e w2 ⟨rfl, hL2, hq⟩
  have c4 := hL2.lset
  have HL2 := Lib.hid hL2
  have HQ := Lib.hid hq
  clear hL2 hq c2 HL
  go_wp2_with fail
  refine (setLast_any s C F _ w2 HL2.out b a h2 h3).mono ?_
  rintro e w3 ⟨rfl, hL3, hq3⟩
  have HE : Hid (Lies s C F (join D a b) w3 ∧ Turn s w w3) := Lib.hid (And.intro hL3 (HQ.out.trans hq3))
  clear hL3 hq3 c4 HL2 HQ
  go_wp2_with fail
  go_end0
  exact ⟨rfl, HE.out⟩

end Go.Proofs.Ytbjlpmjalidfkaa
