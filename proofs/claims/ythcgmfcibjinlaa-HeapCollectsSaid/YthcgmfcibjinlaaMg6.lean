import Derived.Deep.RegionHeld3
import Derived.Shelf.Abstract
import Derived.Deep.RegionWith
import Derived.Test.YthcgmfcibjinlaaMg5
/- Room as it lies; what a call leaves as it was; cut, join, indexFor. -/
namespace Go.Proofs.Ythcgmfcibjinlaa.Ex
open Go.RowKit Go.Sort

/-- Nothing that was there has turned but in two blocks. -/
structure Apart (p d : Nat) (w w' : World) : Prop where
  os : w'.os = w.os
  tape : w'.tape = w.tape
  output : w'.output = w.output
  size : w.heap.size ≤ w'.heap.size
  block : ∀ k, k < w.heap.size → k ≠ p → k ≠ d → w'.heap[k]? = w.heap[k]?

theorem Apart.refl (p d : Nat) (w : World) : Apart p d w w := ⟨rfl, rfl, rfl, Nat.le_refl _, fun _ _ _ _ => rfl⟩
theorem Apart.trans {p d : Nat} {a b c : World} (h : Apart p d a b) (k : Apart p d b c) : Apart p d a c :=
  ⟨k.os.trans h.os, k.tape.trans h.tape, k.output.trans h.output, Nat.le_trans h.size k.size, fun i hi h1 h2 => (k.block i (Nat.lt_of_lt_of_le hi h.size) h1 h2).trans (h.block i hi h1 h2)⟩
/-- A second call, whose row is the first one's or a new one. -/
theorem Apart.step {p d d' : Nat} {a b c : World} (h : Apart p d a b) (k : Apart p d' b c) (hd : d' = d ∨ a.heap.size ≤ d') : Apart p d a c :=
  ⟨k.os.trans h.os, k.tape.trans h.tape, k.output.trans h.output, Nat.le_trans h.size k.size, fun i hi h1 h2 => (k.block i (Nat.lt_of_lt_of_le hi h.size) h1 (by omega)).trans (h.block i hi h1 h2)⟩
theorem Apart.of_below {p d : Nat} {w w' : World} (h : Below w.heap.size w w') : Apart p d w w' := ⟨h.os, h.tape, h.output, h.size, fun k hk _ _ => h.block k hk⟩
theorem Apart.of_grown {p d : Nat} {w w' : World} (h : w.grownBy w' (some d)) : Apart p d w w' := ⟨h.os, h.tape, h.output, h.size, fun k hk _ h2 => h.block k hk (by simpa using h2)⟩
theorem Apart.setP (p d i : Nat) (v : Value) (w : World) : Apart p d w (w.setCell ⟨p, i, none⟩ v) :=
  ⟨rfl, rfl, rfl, by simp [World.setCell], fun k _ h _ => Below.heap_setCell _ _ _ _ h⟩
theorem Apart.setD (p d i : Nat) (v : Value) (w : World) : Apart p d w (w.setCell ⟨d, i, none⟩ v) :=
  ⟨rfl, rfl, rfl, by simp [World.setCell], fun k _ _ h => Below.heap_setCell _ _ _ _ h⟩
theorem Apart.below {p d B : Nat} {w w' : World} (h : Apart p d w w') (hp : B ≤ p) (hd : B ≤ d) (hB : B ≤ w.heap.size) : Below B w w' :=
  ⟨h.os, h.tape, h.output, h.size, fun k hk => h.block k (by omega) (by omega) (by omega)⟩
theorem Apart.then {p d : Nat} {a b c : World} (h : Apart p d a b) (k : Below a.heap.size b c) : Apart p d a c :=
  ⟨k.os.trans h.os, k.tape.trans h.tape, k.output.trans h.output, Nat.le_trans h.size k.size, fun i hi h1 h2 => (k.block i hi).trans (h.block i hi h1 h2)⟩
theorem Apart.thenB {p d : Nat} {a b c : World} (h : Apart p d a b) (k : Below b.heap.size b c) : Apart p d a c := h.then (k.mono h.size)
theorem Apart.cell {p d : Nat} {w w' : World} (h : Apart p d w w') {a : Addr} {v : Value} (hc : w.cell? a = some v) (h1 : a.block ≠ p) (h2 : a.block ≠ d) : w'.cell? a = some v :=
  (World.cell?_of_block (w := w) (h.block a.block (World.block_lt_of_cell? _ _ hc) h1 h2)).trans hc
theorem Apart.frozen {p d : Nat} {w w' : World} (h : Apart p d w w') {a : Addr} (hl : a.block < w.heap.size) (h1 : a.block ≠ p) (h2 : a.block ≠ d) : w'.frozen? a = w.frozen? a :=
  World.frozen?_of_block (w := w) (h.block a.block hl h1 h2)

/-- ROOM AS IT LIES: the struct's block, the block of its runs, how many fit in, the whole, the runs. -/
structure At (w : World) (p g cap : Nat) (F N : Int) (L : List (Int × Int)) : Prop where
  first : w.cell? ⟨p, 0, none⟩ = some (.int .i64 F)
  places : w.cell? ⟨p, 1, none⟩ = some (.int .i64 N)
  free : w.cell? ⟨p, 2, none⟩ = some (.slice (some ⟨g, 0, none⟩) L.length cap)
  fz : w.frozen? ⟨p, 2, none⟩ = false
  own : Own 145 w g cap L
  ne : p ≠ g
  lp : p < w.heap.size

section
variable {w w' : World} {p g cap : Nat} {F N : Int} {L : List (Int × Int)}
theorem At.lg (h : At w p g cap F N L) : g < w.heap.size := h.own.lt
theorem At.move (h : At w p g cap F N L) (hp : w'.heap[p]? = w.heap[p]?) (hd : w'.heap[g]? = w.heap[g]?) (hs : w.heap.size ≤ w'.heap.size) : At w' p g cap F N L :=
  ⟨(World.cell?_of_block (w := w) hp).trans h.first, (World.cell?_of_block (w := w) hp).trans h.places, (World.cell?_of_block (w := w) hp).trans h.free, (World.frozen?_of_block (w := w) hp).trans h.fz,
    h.own.move hd, h.ne, Nat.lt_of_lt_of_le h.lp hs⟩
theorem At.below (h : At w p g cap F N L) {B : Nat} (hb : Below B w w') (hp : p < B) (hd : g < B) : At w' p g cap F N L := h.move (hb.block p hp) (hb.block g hd) hb.size
theorem At.later (h : At w p g cap F N L) (hb : Below w.heap.size w w') : At w' p g cap F N L := h.below hb h.lp h.lg
theorem At.apart (h : At w p g cap F N L) {p' d' : Nat} (hb : Apart p' d' w w') (h1 : p ≠ p') (h2 : p ≠ d') (h3 : g ≠ p') (h4 : g ≠ d') : At w' p g cap F N L :=
  h.move (hb.block p h.lp h1 h2) (hb.block g h.lg h3 h4) hb.size
/-- One run is written anew. -/
theorem At.put {A B : List (Int × Int)} {x : Int × Int} (h : At w p g cap F N (A ++ x :: B)) (k : Nat) (hk : A.length = k) (a m : Int) :
    At ((w.setCell ⟨g, k * 2, none⟩ (.int .i64 a)).setCell ⟨g, k * 2 + 1, none⟩ (.int .i64 m)) p g cap F N (A ++ (a, m) :: B) := by
  have hn : p ≠ g := h.ne
  have e0 : ∀ {j}, (⟨g, k * 2, none⟩ : Addr) ≠ ⟨p, j, none⟩ := fun e => hn (by simpa using (congrArg Addr.block e).symm)
  have e1 : ∀ {j}, (⟨g, k * 2 + 1, none⟩ : Addr) ≠ ⟨p, j, none⟩ := fun e => hn (by simpa using (congrArg Addr.block e).symm)
  refine ⟨?_, ?_, ?_, ?_, Own.put (y := (a, m)) hk h.own, h.ne, by simpa [World.setCell] using h.lp⟩
  · exact (World.cell?_setCell_other _ _ _ _ e1).trans ((World.cell?_setCell_other _ _ _ _ e0).trans h.first)
  · exact (World.cell?_setCell_other _ _ _ _ e1).trans ((World.cell?_setCell_other _ _ _ _ e0).trans h.places)
  · rw [show (A ++ (a, m) :: B).length = (A ++ x :: B).length by simp]
    exact (World.cell?_setCell_other _ _ _ _ e1).trans ((World.cell?_setCell_other _ _ _ _ e0).trans h.free)
  · exact (World.frozen?_setCell _ _ _ _).trans ((World.frozen?_setCell _ _ _ _).trans h.fz)
/-- The row's runs are other ones now, or there is a new row; the struct is told. -/
theorem At.told (h : At w p g cap F N L) {g' cap' : Nat} {M : List (Int × Int)} (hg : w.grownBy w' (some g)) (hO : Own 145 w' g' cap' M) (hat : g' = g ∨ w.heap.size ≤ g') (n : Nat) (hn : M.length = n) :
    At (w'.setCell ⟨p, 2, none⟩ (.slice (some ⟨g', 0, none⟩) n cap')) p g' cap' F N M := by
  have lp := h.lp
  have lg := h.lg
  have ne := h.ne
  have hne : p ≠ g' := by omega
  have hb : w'.heap[p]? = w.heap[p]? := hg.block p h.lp (by simp [h.ne])
  subst hn
  refine ⟨?_, ?_, ?_, ?_, ?_, hne, by have := hg.size; simp [World.setCell]; omega⟩
  · exact (World.cell?_setCell_other _ _ _ _ (by simp)).trans ((World.cell?_of_block (w := w) hb).trans h.first)
  · exact (World.cell?_setCell_other _ _ _ _ (by simp)).trans ((World.cell?_of_block (w := w) hb).trans h.places)
  · exact World.cell?_setCell_same _ _ _ ((World.cell?_of_block (w := w) hb).trans h.free)
  · exact (World.frozen?_setCell _ _ _ _).trans ((World.frozen?_of_block (w := w) hb).trans h.fz)
  · exact hO.move (Below.heap_setCell _ _ _ _ (Ne.symm hne))
theorem Apart.told (hg : w.grownBy w' (some g)) (v : Value) : Apart p g w (w'.setCell ⟨p, 2, none⟩ v) :=
  (Apart.of_grown hg).trans (Apart.setP p g 2 v w')
end

/-- Delete of the run at i, as it is called: i and i + 1. -/
theorem delete_call (w : World) (g cap i n : Nat) (A B : List (Int × Int)) (x : Int × Int) (hO : Own 145 w g cap (A ++ x :: B)) (hA : A.length = i) (hn : B.length + i + 1 = n) :
    Calls Try.prog 112 #[.slice (some ⟨g, 0, none⟩) n cap, .int .i64 i, .int .i64 ((i : Int) + 1)] w fun e w' =>
      e = .returned (.slice (some ⟨g, 0, none⟩) (n - 1) cap) ∧ Own 145 w' g cap (A ++ B) ∧ w.grownBy w' (some g) := by
  have h := delete_any w g cap i (i + 1) n A B x hO hA rfl (by omega) (by omega)
  rwa [show ((i + 1 : Nat) : Int) = (i : Int) + 1 from rfl] at h

set_option maxHeartbeats 4000000 in
set_option maxRecDepth 100000 in
/-- cut: a run loses its first places, all of them. -/
theorem cut_whole (p g cap i : Nat) (F N n : Int) (A B : List (Int × Int)) (a : Int) (w : World) (hA : At w p g cap F N (A ++ (a, n) :: B)) (hi : A.length = i) (hsmall : (A ++ (a, n) :: B).length ≤ 100000) :
    Calls Try.prog 104 #[.pointer (some ⟨p, 0, none⟩), .int .i64 i, .int .i64 n] w fun e w' => e = .returned (.tuple #[]) ∧ At w' p g cap F N (A ++ B) ∧ Apart p g w w' := by
  have lp := hA.lp
  have lg := hA.lg
  obtain ⟨m, hm⟩ : ∃ m, (A ++ (a, n) :: B).length = m := ⟨_, rfl⟩
  rw [hm] at hsmall
  have him : i < m := by rw [← hm, ← hi]; simp
  have hf := hA.free
  rw [hm] at hf
  obtain ⟨c0, c1⟩ := hA.own.cell (k := i) (x := (a, n)) (by rw [List.getElem?_append_right (by omega), hi, Nat.sub_self]; rfl)
  have hal := (Below.refl w.heap.size w).alloc (Nat.le_refl _) (.cells #[.int .i64 a, .int .i64 n] 145)
  have hA1 := hA.later hal
  have HA := Lib.hid hA1
  have HB := Lib.hid hal
  have H := Lib.hid (delete_call (w.alloc (.cells #[.int .i64 a, .int .i64 n] 145)) g cap i m A B (a, n) hA1.own hi (by rw [← hm, ← hi]; simp; omega))
  have hlen : (A ++ B).length = m - 1 := by rw [← hm]; simp
  have HL := Lib.hid hlen
  clear hA1 hal hlen hA hm hi
  go_enter Try.func104, Try.ntmps104
  go_wp2_with fail
  refine H.out.mono ?_
  rintro e w2 ⟨rfl, hO, hg⟩
  have hb : w2.heap[p]? = (w.alloc (.cells #[.int .i64 a, .int .i64 n] 145)).heap[p]? := hg.block p HA.out.lp (by simpa using HA.out.ne)
  have f2 := (World.cell?_of_block (w := w.alloc (.cells #[.int .i64 a, .int .i64 n] 145)) (a := ⟨p, 2, none⟩) hb).trans HA.out.free
  have z2 := (World.frozen?_of_block (w := w.alloc (.cells #[.int .i64 a, .int .i64 n] 145)) (a := ⟨p, 2, none⟩) hb).trans HA.out.fz
  have hE := At.told HA.out hg hO (Or.inl rfl) (m - 1) HL.out
  have hQ := (Apart.of_below HB.out).trans (Apart.told (p := p) hg (.slice (some ⟨g, 0, none⟩) (m - 1) cap))
  clear hb hg hO
  go_wp2_with fail
  refine bodyPost_ret (v := .tuple #[]) (by simp [results, Try.results104]) rfl ⟨rfl, hE, hQ⟩

set_option maxHeartbeats 4000000 in
set_option maxRecDepth 100000 in
/-- cut: a run loses its first places, not all. -/
theorem cut_part (p g cap i : Nat) (F N n : Int) (A B : List (Int × Int)) (a k : Int) (w : World) (hA : At w p g cap F N (A ++ (a, k) :: B)) (hi : A.length = i) (h0 : 1 ≤ n) (h1 : n < k) (h2 : 0 ≤ a) (h3 : a + k ≤ 1000000) :
    Calls Try.prog 104 #[.pointer (some ⟨p, 0, none⟩), .int .i64 i, .int .i64 n] w fun e w' => e = .returned (.tuple #[]) ∧ At w' p g cap F N (A ++ (a + n, k - n) :: B) ∧ Apart p g w w' := by
  have lp := hA.lp
  have lg := hA.lg
  have ne := hA.ne
  obtain ⟨m, hm⟩ : ∃ m, (A ++ (a, k) :: B).length = m := ⟨_, rfl⟩
  have him : i < m := by rw [← hm, ← hi]; simp
  have hf := hA.free
  rw [hm] at hf
  obtain ⟨c0, c1⟩ := hA.own.cell (k := i) (x := (a, k)) (by rw [List.getElem?_append_right (by omega), hi, Nat.sub_self]; rfl)
  have z0 := hA.own.frozen (i * 2)
  have z1 := hA.own.frozen (i * 2 + 1)
  have hal := (Below.refl w.heap.size w).alloc (Nat.le_refl _) (.cells #[.int .i64 a, .int .i64 k] 145)
  have hkn : (k == n) = false := by simp; omega
  have HA := Lib.hid hA
  have HB := Lib.hid hal
  have HI := Lib.hid hi
  have hw1 : IntKind.i64.wrap (a + n) = a + n := by rw [IntKind.wrap_i64]; omega
  have hw2 : IntKind.i64.wrap (k - n) = k - n := by rw [IntKind.wrap_i64]; omega
  clear hal hA hm hi
  go_enter Try.func104, Try.ntmps104
  go_wp2_with fail
  go_region
  have hE := HA.out.put i HI.out (a + n) (k - n)
  have hB9 : Below (((w.setCell ⟨g, i * 2, none⟩ (.int .i64 (a + n))).setCell ⟨g, i * 2 + 1, none⟩ (.int .i64 (k - n)))).heap.size ((w.setCell ⟨g, i * 2, none⟩ (.int .i64 (a + n))).setCell ⟨g, i * 2 + 1, none⟩ (.int .i64 (k - n)))
      (((w.setCell ⟨g, i * 2, none⟩ (.int .i64 (a + n))).setCell ⟨g, i * 2 + 1, none⟩ (.int .i64 (k - n))).alloc (.cells #[.int .i64 a, .int .i64 k] 145)).drew := ((Below.refl _ _).alloc (Nat.le_refl _) _).drew
  have hQ := ((Apart.setD p g (i * 2) (.int .i64 (a + n)) w).trans (Apart.setD p g (i * 2 + 1) (.int .i64 (k - n)) _)).thenB hB9
  replace hE := hE.later hB9
  clear hB9
  go_wp2_with fail
  go_end0
  exact ⟨rfl, hE, hQ⟩

end Go.Proofs.Ythcgmfcibjinlaa.Ex

/- join: two neighbours that touch become one. -/
namespace Go.Proofs.Ythcgmfcibjinlaa.Ex
open Go.RowKit Go.Sort

set_option maxHeartbeats 1000000 in
set_option maxRecDepth 100000 in
theorem join_less (p : Addr) (i : Int) (w : World) (hi : i < 0) :
    Calls Try.prog 97 #[.pointer (some p), .int .i64 i] w fun e w' => e = .returned (.tuple #[]) ∧ w' = w := by
  have hd : decide (i < 0) = true := by simpa using hi
  go_enter Try.func97, Try.ntmps97
  go_wp2_with fail
  refine bodyPost_ret (v := .tuple #[]) (by simp [results, Try.results97]) rfl ⟨rfl, rfl⟩

set_option maxHeartbeats 1000000 in
set_option maxRecDepth 100000 in
theorem join_last (p g cap i : Nat) (F N : Int) (L : List (Int × Int)) (w : World) (hA : At w p g cap F N L) (hi : L.length ≤ i + 1) (hs : i ≤ 100000) :
    Calls Try.prog 97 #[.pointer (some ⟨p, 0, none⟩), .int .i64 i] w fun e w' => e = .returned (.tuple #[]) ∧ w' = w := by
  have hf := hA.free
  generalize L.length = m at hf hi
  have hd : decide ((i : Int) < 0) = false := by simp
  have hd2 : decide ((m : Int) ≤ (i : Int) + 1) = true := by simp; omega
  clear hA
  go_enter Try.func97, Try.ntmps97
  go_wp2_with fail
  refine bodyPost_ret (v := .tuple #[]) (by simp [results, Try.results97]) rfl ⟨rfl, rfl⟩

/-- Delete of the run behind the one at i, as it is called: i + 1 and i + 2. -/
theorem delete_next (w : World) (g cap i n : Nat) (A B : List (Int × Int)) (x : Int × Int) (hO : Own 145 w g cap (A ++ x :: B)) (hA : A.length = i + 1) (hn : B.length + i + 2 = n) :
    Calls Try.prog 112 #[.slice (some ⟨g, 0, none⟩) n cap, .int .i64 ((i : Int) + 1), .int .i64 ((i : Int) + 2)] w fun e w' =>
      e = .returned (.slice (some ⟨g, 0, none⟩) (n - 1) cap) ∧ Own 145 w' g cap (A ++ B) ∧ w.grownBy w' (some g) := by
  have h := delete_any w g cap (i + 1) (i + 2) n A B x hO hA rfl (by omega) (by omega)
  rwa [show ((i + 1 : Nat) : Int) = (i : Int) + 1 from rfl, show ((i + 2 : Nat) : Int) = (i : Int) + 2 from rfl] at h

theorem joined_eq {w : World} {p g cap : Nat} {F N : Int} (A : List (Int × Int)) (a n k : Int) (B : List (Int × Int)) (h : At w p g cap F N (A ++ [(a, n + k)] ++ B)) : At w p g cap F N (joined A (a, n) (a + n, k) B) := by
  unfold joined
  rw [if_pos rfl]
  simpa using h
theorem joined_ne {w : World} {p g cap : Nat} {F N : Int} (A : List (Int × Int)) (a n b k : Int) (B : List (Int × Int)) (e : ¬ b = a + n) (h : At w p g cap F N (A ++ (a, n) :: (b, k) :: B)) : At w p g cap F N (joined A (a, n) (b, k) B) := by
  unfold joined
  rw [if_neg e]
  exact h

set_option maxHeartbeats 4000000 in
set_option maxRecDepth 100000 in
theorem join_two (p g cap i : Nat) (F N : Int) (A B : List (Int × Int)) (a n b k : Int) (w : World) (hA : At w p g cap F N (A ++ (a, n) :: (b, k) :: B)) (hi : A.length = i) (hsmall : (A ++ (a, n) :: (b, k) :: B).length ≤ 100000)
    (ha : 0 ≤ a) (hn : 0 ≤ n) (han : a + n ≤ 1000000) (hk0 : 0 ≤ k) (hk : k ≤ 1000000) :
    Calls Try.prog 97 #[.pointer (some ⟨p, 0, none⟩), .int .i64 i] w fun e w' => e = .returned (.tuple #[]) ∧ At w' p g cap F N (joined A (a, n) (b, k) B) ∧ Apart p g w w' := by
  have lp := hA.lp
  have lg := hA.lg
  have ne := hA.ne
  obtain ⟨m, hm⟩ : ∃ m, (A ++ (a, n) :: (b, k) :: B).length = m := ⟨_, rfl⟩
  rw [hm] at hsmall
  have him : i + 1 < m := by rw [← hm, ← hi]; simp
  have hf := hA.free
  rw [hm] at hf
  obtain ⟨c0, c1⟩ := hA.own.cell (k := i) (x := (a, n)) (by rw [List.getElem?_append_right (by omega), hi, Nat.sub_self]; rfl)
  obtain ⟨c2, c3⟩ := hA.own.cell (k := i + 1) (x := (b, k)) (by rw [List.getElem?_append_right (by omega), hi, Nat.add_sub_cancel_left]; rfl)
  have hd : decide ((i : Int) < 0) = false := by simp
  have hd2 : decide ((m : Int) ≤ (i : Int) + 1) = false := by simp; omega
  have hw1 : IntKind.i64.wrap ((i : Int) + 1) = (i : Int) + 1 := by rw [IntKind.wrap_i64]; omega
  have hb1 : (0 : Int) ≤ (i : Int) + 1 := by omega
  have hb2 : (i : Int) + 1 < (m : Int) := by omega
  have hb3 : (i : Int) < (m : Int) := by omega
  have htn : ((i : Int) + 1).toNat = i + 1 := by omega
  have HA := Lib.hid hA
  have HI := Lib.hid hi
  have HM := Lib.hid hm
  clear hA hi hm
  go_enter Try.func97, Try.ntmps97
  go_wp2_with fail
  go_region
  · have hB : Below w.heap.size w ((w.alloc (.cells #[.int .i64 a, .int .i64 n] 145)).alloc (.cells #[.int .i64 b, .int .i64 k] 145)).drew := (((Below.refl w.heap.size w).alloc (Nat.le_refl _) _).alloc (by simp) _).drew
    have q0 : ((w.alloc (.cells #[.int .i64 a, .int .i64 n] 145)).alloc (.cells #[.int .i64 b, .int .i64 k] 145)).drew.cell? ⟨w.heap.size, 0, none⟩ = some (.int .i64 a) := by simp [go_sem]
    have q1 : ((w.alloc (.cells #[.int .i64 a, .int .i64 n] 145)).alloc (.cells #[.int .i64 b, .int .i64 k] 145)).drew.cell? ⟨w.heap.size, 1, none⟩ = some (.int .i64 n) := by simp [go_sem]
    have q2 : ((w.alloc (.cells #[.int .i64 a, .int .i64 n] 145)).alloc (.cells #[.int .i64 b, .int .i64 k] 145)).drew.cell? ⟨w.heap.size + 1, 0, none⟩ = some (.int .i64 b) := by simp [go_sem]
    have q3 : ((w.alloc (.cells #[.int .i64 a, .int .i64 n] 145)).alloc (.cells #[.int .i64 b, .int .i64 k] 145)).drew.cell? ⟨w.heap.size + 1, 1, none⟩ = some (.int .i64 k) := by simp [go_sem]
    generalize ((w.alloc (.cells #[.int .i64 a, .int .i64 n] 145)).alloc (.cells #[.int .i64 b, .int .i64 k] 145)).drew = W at hB q0 q1 q2 q3 ⊢
    clear c0 c1 c2 c3 hf
    by_cases e : b = a + n
    · subst e
      go_wp2_with fail
      refine (touches_any a n (a + n) k W (by omega) (by omega)).mono ?_
      rintro e w2 ⟨rfl, hb⟩
      replace q0 := later hb q0
      replace q1 := later hb q1
      replace q2 := later hb q2
      replace q3 := later hb q3
      replace hB := onB hB hb
      clear hb
      have hA2 := HA.out.later hB
      have hf := hA2.free
      rw [HM.out] at hf
      obtain ⟨c0, c1⟩ := hA2.own.cell (k := i) (x := (a, n)) (by rw [List.getElem?_append_right (by have := HI.out; omega), HI.out, Nat.sub_self]; rfl)
      have z0 := hA2.own.frozen (i * 2)
      have z1 := hA2.own.frozen (i * 2 + 1)
      have gx : g ≠ w.heap.size := by omega
      have gy : g ≠ w.heap.size + 1 := by omega
      have HB := Lib.hid hB
      have HA2 := Lib.hid hA2
      clear hB hA2
      have hsize := HB.out.size
      have hw2 : IntKind.i64.wrap (n + k) = n + k := by rw [IntKind.wrap_i64]; omega
      go_wp2_with fail
      go_region
      have hE := HA2.out.put i HI.out a (n + k)
      have hQ := ((Apart.of_below (p := p) (d := g) HB.out).trans ((Apart.setD p g (i * 2) (.int .i64 a) w2).trans (Apart.setD p g (i * 2 + 1) (.int .i64 (n + k)) _))).thenB (Below.refl _ _).drew
      replace hE := hE.later (Below.refl _ _).drew
      clear c0 c1 q0 q1 q2 q3 z0 z1 hf gx gy hsize
      generalize hW4 : ((w2.setCell ⟨g, i * 2, none⟩ (.int .i64 a)).setCell ⟨g, i * 2 + 1, none⟩ (.int .i64 (n + k))).drew = W4 at hE hQ ⊢
      clear hW4
      have hf := hE.free
      have hl : (A ++ (a, n + k) :: (a + n, k) :: B).length = m := by rw [← HM.out]; simp
      rw [hl] at hf
      have hO := hE.own
      have H := Lib.hid (delete_next W4 g cap i m (A ++ [(a, n + k)]) B (a + n, k) (by simpa using hO) (by simp; exact HI.out) (by have := HI.out; have hl2 := hl; simp at hl2; omega))
      have HE := Lib.hid hE
      have HQ := Lib.hid hQ
      have hl3 : (A ++ [(a, n + k)] ++ B).length = m - 1 := by rw [← hl]; simp
      have HL := Lib.hid hl3
      have lp4 := hE.lp
      clear hE hQ hO hl hl3
      go_wp2_with fail
      refine H.out.mono ?_
      rintro e w5 ⟨rfl, hO, hg⟩
      have hb : w5.heap[p]? = W4.heap[p]? := hg.block p lp4 (by simpa using ne)
      have f2 := (World.cell?_of_block (w := W4) (a := ⟨p, 2, none⟩) hb).trans HE.out.free
      have z2 := (World.frozen?_of_block (w := W4) (a := ⟨p, 2, none⟩) hb).trans HE.out.fz
      have hE9 := At.told HE.out hg hO (Or.inl rfl) (m - 1) HL.out
      have hQ9 := HQ.out.trans (Apart.told (p := p) hg (.slice (some ⟨g, 0, none⟩) (m - 1) cap))
      have HE9 := Lib.hid (joined_eq A a n k B hE9)
      clear hb hg hO hE9
      go_wp2_with fail
      go_end0
      exact ⟨rfl, HE9.out, hQ9⟩
    · go_wp2_with fail
      refine (touches_any a n b k W (by omega) (by omega)).mono ?_
      rintro e w2 ⟨rfl, hb⟩
      replace hB := onB hB hb
      clear hb q0 q1 q2 q3
      have hE := HA.out.later hB
      have hQ := Apart.of_below (p := p) (d := g) hB
      have HE := Lib.hid (joined_ne A a n b k B e hE)
      clear hE hB
      go_wp2_with fail
      go_end0
      exact ⟨rfl, HE.out, hQ⟩
  · have hB : Below w.heap.size w ((w.alloc (.cells #[.int .i64 b, .int .i64 k] 145)).alloc (.cells #[.int .i64 a, .int .i64 n] 145)).drew := (((Below.refl w.heap.size w).alloc (Nat.le_refl _) _).alloc (by simp) _).drew
    have q0 : ((w.alloc (.cells #[.int .i64 b, .int .i64 k] 145)).alloc (.cells #[.int .i64 a, .int .i64 n] 145)).drew.cell? ⟨w.heap.size + 1, 0, none⟩ = some (.int .i64 a) := by simp [go_sem]
    have q1 : ((w.alloc (.cells #[.int .i64 b, .int .i64 k] 145)).alloc (.cells #[.int .i64 a, .int .i64 n] 145)).drew.cell? ⟨w.heap.size + 1, 1, none⟩ = some (.int .i64 n) := by simp [go_sem]
    have q2 : ((w.alloc (.cells #[.int .i64 b, .int .i64 k] 145)).alloc (.cells #[.int .i64 a, .int .i64 n] 145)).drew.cell? ⟨w.heap.size, 0, none⟩ = some (.int .i64 b) := by simp [go_sem]
    have q3 : ((w.alloc (.cells #[.int .i64 b, .int .i64 k] 145)).alloc (.cells #[.int .i64 a, .int .i64 n] 145)).drew.cell? ⟨w.heap.size, 1, none⟩ = some (.int .i64 k) := by simp [go_sem]
    generalize ((w.alloc (.cells #[.int .i64 b, .int .i64 k] 145)).alloc (.cells #[.int .i64 a, .int .i64 n] 145)).drew = W at hB q0 q1 q2 q3 ⊢
    clear c0 c1 c2 c3 hf
    by_cases e : b = a + n
    · subst e
      go_wp2_with fail
      refine (touches_any a n (a + n) k W (by omega) (by omega)).mono ?_
      rintro e w2 ⟨rfl, hb⟩
      replace q0 := later hb q0
      replace q1 := later hb q1
      replace q2 := later hb q2
      replace q3 := later hb q3
      replace hB := onB hB hb
      clear hb
      have hA2 := HA.out.later hB
      have hf := hA2.free
      rw [HM.out] at hf
      obtain ⟨c0, c1⟩ := hA2.own.cell (k := i) (x := (a, n)) (by rw [List.getElem?_append_right (by have := HI.out; omega), HI.out, Nat.sub_self]; rfl)
      have z0 := hA2.own.frozen (i * 2)
      have z1 := hA2.own.frozen (i * 2 + 1)
      have gx : g ≠ w.heap.size + 1 := by omega
      have gy : g ≠ w.heap.size := by omega
      have HB := Lib.hid hB
      have HA2 := Lib.hid hA2
      clear hB hA2
      have hsize := HB.out.size
      have hw2 : IntKind.i64.wrap (n + k) = n + k := by rw [IntKind.wrap_i64]; omega
      go_wp2_with fail
      go_region
      have hE := HA2.out.put i HI.out a (n + k)
      have hQ := ((Apart.of_below (p := p) (d := g) HB.out).trans ((Apart.setD p g (i * 2) (.int .i64 a) w2).trans (Apart.setD p g (i * 2 + 1) (.int .i64 (n + k)) _))).thenB (Below.refl _ _).drew
      replace hE := hE.later (Below.refl _ _).drew
      clear c0 c1 q0 q1 q2 q3 z0 z1 hf gx gy hsize
      generalize hW4 : ((w2.setCell ⟨g, i * 2, none⟩ (.int .i64 a)).setCell ⟨g, i * 2 + 1, none⟩ (.int .i64 (n + k))).drew = W4 at hE hQ ⊢
      clear hW4
      have hf := hE.free
      have hl : (A ++ (a, n + k) :: (a + n, k) :: B).length = m := by rw [← HM.out]; simp
      rw [hl] at hf
      have hO := hE.own
      have H := Lib.hid (delete_next W4 g cap i m (A ++ [(a, n + k)]) B (a + n, k) (by simpa using hO) (by simp; exact HI.out) (by have := HI.out; have hl2 := hl; simp at hl2; omega))
      have HE := Lib.hid hE
      have HQ := Lib.hid hQ
      have hl3 : (A ++ [(a, n + k)] ++ B).length = m - 1 := by rw [← hl]; simp
      have HL := Lib.hid hl3
      have lp4 := hE.lp
      clear hE hQ hO hl hl3
      go_wp2_with fail
      refine H.out.mono ?_
      rintro e w5 ⟨rfl, hO, hg⟩
      have hb : w5.heap[p]? = W4.heap[p]? := hg.block p lp4 (by simpa using ne)
      have f2 := (World.cell?_of_block (w := W4) (a := ⟨p, 2, none⟩) hb).trans HE.out.free
      have z2 := (World.frozen?_of_block (w := W4) (a := ⟨p, 2, none⟩) hb).trans HE.out.fz
      have hE9 := At.told HE.out hg hO (Or.inl rfl) (m - 1) HL.out
      have hQ9 := HQ.out.trans (Apart.told (p := p) hg (.slice (some ⟨g, 0, none⟩) (m - 1) cap))
      have HE9 := Lib.hid (joined_eq A a n k B hE9)
      clear hb hg hO hE9
      go_wp2_with fail
      go_end0
      exact ⟨rfl, HE9.out, hQ9⟩
    · go_wp2_with fail
      refine (touches_any a n b k W (by omega) (by omega)).mono ?_
      rintro e w2 ⟨rfl, hb⟩
      replace hB := onB hB hb
      clear hb q0 q1 q2 q3
      have hE := HA.out.later hB
      have hQ := Apart.of_below (p := p) (d := g) hB
      have HE := Lib.hid (joined_ne A a n b k B e hE)
      clear hE hB
      go_wp2_with fail
      go_end0
      exact ⟨rfl, HE.out, hQ⟩

end Go.Proofs.Ythcgmfcibjinlaa.Ex

/- What a call answers of the runs, and what they are behind it: in numbers alone. -/
namespace Go.Proofs.Ythcgmfcibjinlaa.Ex

/-- The first run that has n places. -/
def spot (n : Int) : List (Int × Int) → Option Int
  | [] => none
  | x :: r => if n ≤ x.2 then some x.1 else spot n r
def tErr (n : Int) (L : List (Int × Int)) : Int := if n < 1 then 1 else if (spot n L).isNone then 2 else 0
def tAt (n : Int) (L : List (Int × Int)) : Int := if n < 1 then 0 else (spot n L).getD 0
def within (F N a n : Int) : Prop := 1 ≤ n ∧ F ≤ a ∧ a + n ≤ F + N
instance (F N a n : Int) : Decidable (within F N a n) := by unfold within; infer_instance
def hits (a n : Int) (L : List (Int × Int)) : Bool := L.any fun x => decide (a < x.1 + x.2) && decide (x.1 < a + n)
def gErr (F N a n : Int) (L : List (Int × Int)) : Int := if within F N a n then (if hits a n L then 5 else 0) else 1

/-- What a take leaves. -/
def Took (lo hi n : Int) (L M : List (Int × Int)) : Prop :=
  Good lo hi M ∧ (∀ i, Cov M i ↔ Cov L i ∧ (tErr n L = 0 → ¬ (tAt n L ≤ i ∧ i < tAt n L + n))) ∧ total M = total L - (if tErr n L = 0 then n else 0)
/-- What a give leaves. -/
def Given (lo hi F N a n : Int) (L M : List (Int × Int)) : Prop :=
  Good lo hi M ∧ (∀ i, Cov M i ↔ Cov L i ∨ (gErr F N a n L = 0 ∧ a ≤ i ∧ i < a + n)) ∧ total M = total L + (if gErr F N a n L = 0 then n else 0)

theorem spot_none {n : Int} {L : List (Int × Int)} (h : ∀ x, x ∈ L → x.2 < n) : spot n L = none := by
  induction L with
  | nil => rfl
  | cons y L ih =>
    have := h y List.mem_cons_self
    rw [spot, if_neg (by omega)]
    exact ih fun x hx => h x (List.mem_cons_of_mem _ hx)
theorem spot_some {n : Int} {A B : List (Int × Int)} {a k : Int} (h : ∀ x, x ∈ A → x.2 < n) (hk : n ≤ k) : spot n (A ++ (a, k) :: B) = some a := by
  induction A with
  | nil => simp [spot, hk]
  | cons y A ih =>
    have := h y List.mem_cons_self
    rw [List.cons_append, spot, if_neg (by omega)]
    exact ih fun x hx => h x (List.mem_cons_of_mem _ hx)
/-- Either none has so many, or there is a first one. -/
theorem spot_cases (n : Int) (L : List (Int × Int)) : (∀ x, x ∈ L → x.2 < n) ∨ ∃ A a k B, L = A ++ (a, k) :: B ∧ (∀ x, x ∈ A → x.2 < n) ∧ n ≤ k := by
  induction L with
  | nil => exact Or.inl fun x hx => by cases hx
  | cons y L ih =>
    by_cases hy : n ≤ y.2
    · exact Or.inr ⟨[], y.1, y.2, L, rfl, (fun x hx => by cases hx), hy⟩
    · rcases ih with h | ⟨A, a, k, B, rfl, h, hk⟩
      · refine Or.inl fun x hx => ?_
        rcases List.mem_cons.1 hx with rfl | hx
        · omega
        · exact h x hx
      · refine Or.inr ⟨y :: A, a, k, B, rfl, fun x hx => ?_, hk⟩
        rcases List.mem_cons.1 hx with rfl | hx
        · omega
        · exact h x hx
theorem hits_cases (a n : Int) (L : List (Int × Int)) :
    (hits a n L = false ∧ ∀ y, y ∈ L → (decide (a < y.1 + y.2) && decide (y.1 < a + n)) = false) ∨
    (hits a n L = true ∧ ∃ A x B, L = A ++ x :: B ∧ (∀ y, y ∈ A → (decide (a < y.1 + y.2) && decide (y.1 < a + n)) = false) ∧ (decide (a < x.1 + x.2) && decide (x.1 < a + n)) = true) := by
  induction L with
  | nil => exact Or.inl ⟨rfl, (fun y hy => by cases hy)⟩
  | cons y L ih =>
    cases hy : (decide (a < y.1 + y.2) && decide (y.1 < a + n)) with
    | true => exact Or.inr ⟨by simp only [hits, List.any_cons, hy, Bool.true_or], [], y, L, rfl, (fun x hx => by cases hx), hy⟩
    | false =>
      have e : hits a n (y :: L) = hits a n L := by simp only [hits, List.any_cons, hy, Bool.false_or]
      rw [e]
      rcases ih with ⟨h, hh⟩ | ⟨h, A, x, B, rfl, hh, hx⟩
      · refine Or.inl ⟨h, fun x hx => ?_⟩
        rcases List.mem_cons.1 hx with rfl | hx
        · exact hy
        · exact hh x hx
      · refine Or.inr ⟨h, y :: A, x, B, rfl, fun z hz => ?_, hx⟩
        rcases List.mem_cons.1 hz with rfl | hz
        · exact hy
        · exact hh z hz
/-- The list, parted where a run that begins at a goes. -/
theorem part_at {lo hi : Int} (a : Int) {L : List (Int × Int)} (h : Good lo hi L) : ∃ A B, L = A ++ B ∧ (∀ x, x ∈ A → x.1 ≤ a) ∧ (∀ y B', B = y :: B' → a < y.1) ∧ (∀ x, x ∈ B → a < x.1) := by
  induction L generalizing lo with
  | nil => exact ⟨[], [], rfl, (fun x hx => by cases hx), (fun y B' e => by cases e), (fun x hx => by cases hx)⟩
  | cons y L ih =>
    obtain ⟨h1, h2, h3, h4⟩ := h
    by_cases hy : a < y.1
    · refine ⟨[], y :: L, rfl, (fun x hx => by cases hx), (fun z B' e => by cases e; exact hy), fun x hx => ?_⟩
      rcases List.mem_cons.1 hx with rfl | hx
      · exact hy
      · have := good_mem h4 hx; omega
    · obtain ⟨A, B, rfl, p1, p2, p3⟩ := ih h4
      refine ⟨y :: A, B, rfl, fun x hx => ?_, p2, p3⟩
      rcases List.mem_cons.1 hx with rfl | hx
      · omega
      · exact p1 x hx

theorem tErr_le {n : Int} {L : List (Int × Int)} (h : n < 1) : tErr n L = 1 ∧ tAt n L = 0 := by simp [tErr, tAt, h]
theorem took_same {lo hi n : Int} {L : List (Int × Int)} (h : Good lo hi L) (he : tErr n L ≠ 0) : Took lo hi n L L :=
  ⟨h, fun i => by simp [he], by simp [he]⟩
theorem given_same {lo hi F N a n : Int} {L : List (Int × Int)} (h : Good lo hi L) (he : gErr F N a n L ≠ 0) : Given lo hi F N a n L L :=
  ⟨h, fun i => by simp [he], by simp [he]⟩
def cutAt (A : List (Int × Int)) (a k : Int) (B : List (Int × Int)) (n : Int) : List (Int × Int) := if k = n then A ++ B else A ++ (a + n, k - n) :: B
theorem took_cut {lo hi n a k : Int} {A B : List (Int × Int)} (h : Good lo hi (A ++ (a, k) :: B)) (hn : 1 ≤ n) (hA : ∀ x, x ∈ A → x.2 < n) (hk : n ≤ k) :
    tErr n (A ++ (a, k) :: B) = 0 ∧ tAt n (A ++ (a, k) :: B) = a ∧ Took lo hi n (A ++ (a, k) :: B) (cutAt A a k B n) := by
  have hs := spot_some (B := B) (a := a) hA hk
  have e1 : tErr n (A ++ (a, k) :: B) = 0 := by rw [tErr, if_neg (by omega), hs]; rfl
  have e2 : tAt n (A ++ (a, k) :: B) = a := by rw [tAt, if_neg (by omega), hs]; rfl
  refine ⟨e1, e2, ?_⟩
  unfold Took cutAt
  rw [e1, e2]
  by_cases hkn : k = n
  · subst hkn
    obtain ⟨h1, h2, h3⟩ := take_whole h
    rw [if_pos rfl]
    exact ⟨h1, fun i => by simpa using h2 i, by simpa using h3⟩
  · obtain ⟨h1, h2, h3⟩ := take_part (n := n) h hn (by simp only; omega)
    rw [if_neg hkn]
    exact ⟨h1, fun i => by simpa using h2 i, by simpa using h3⟩

theorem given_join {lo hi F N a n k : Int} {A B B' M : List (Int × Int)} (h : Good lo hi (A ++ B)) (hw : within F N a n) (hlo : lo ≤ a) (hhi : a + n ≤ hi) (hh : hits a n (A ++ B) = false) (hA : Good lo a A) (hB : Good (a + n) hi B)
    (hg : giveB A (a, n) B = A ++ (a, k) :: B') (hM : (A = [] ∧ M = (a, k) :: B') ∨ ∃ A' z, A = A' ++ [z] ∧ M = joined A' z (a, k) B') : Given lo hi F N a n (A ++ B) M := by
  have e : gErr F N a n (A ++ B) = 0 := by simp [gErr, hw, hh]
  obtain ⟨k', B'', hg', k1, k2, k3, k4, k5⟩ := give_good (A := A) hB hw.1 hhi
  have ee : A ++ (a, k') :: B'' = A ++ (a, k) :: B' := hg'.symm.trans hg
  have ee2 := List.append_cancel_left ee
  simp only [List.cons.injEq, Prod.mk.injEq, true_and] at ee2
  obtain ⟨rfl, rfl⟩ := ee2
  unfold Given
  rw [e]
  rcases hM with ⟨rfl, rfl⟩ | ⟨A', z, rfl, rfl⟩
  · exact ⟨give_first hlo k1 k2 k3, fun i => by simpa using k4 i, by simpa using k5⟩
  · have hz := good_mem hA (x := z) (by simp)
    refine ⟨give_last hA k1 k2 k3, fun i => ?_, ?_⟩
    · rw [cov_joined _ _ _ _ (by omega) (by simp only; omega)]
      have := k4 i
      simpa using this
    · rw [total_joined]
      have := k5
      simpa using this

theorem good_length {lo hi : Int} {L : List (Int × Int)} (h : Good lo hi L) (hl : lo ≤ hi) : (L.length : Int) ≤ hi - lo := by
  induction L generalizing lo with
  | nil => simp; omega
  | cons x r ih =>
    obtain ⟨a, b, c, d⟩ := h
    by_cases e : x.1 + x.2 + 1 ≤ hi
    · have := ih d e
      simp; omega
    · cases r with
      | nil => simp; omega
      | cons y r => obtain ⟨a', b', c', _⟩ := d; omega
theorem good_total {lo hi : Int} {L : List (Int × Int)} (h : Good lo hi L) (hl : lo ≤ hi) : 0 ≤ total L ∧ total L ≤ hi - lo := by
  induction L generalizing lo with
  | nil => simp [total]; omega
  | cons x r ih =>
    obtain ⟨a, b, c, d⟩ := h
    simp only [total]
    by_cases e : x.1 + x.2 + 1 ≤ hi
    · have := ih d e
      omega
    · cases r with
      | nil => simp [total]; omega
      | cons y r => obtain ⟨a', b', c', _⟩ := d; omega
theorem good_start {F N : Int} (h : 0 < N) : Good F (F + N) [(F, N)] := ⟨Int.le_refl _, by simp only; omega, Int.le_refl _, trivial⟩

end Go.Proofs.Ythcgmfcibjinlaa.Ex

/- Take: refused, full, or the first run that has so many places loses its first ones. -/
namespace Go.Proofs.Ythcgmfcibjinlaa.Ex
open Go.RowKit Go.Sort

theorem asks_fits {w : World} {B : Nat} {n : Int} (hc : w.cell? ⟨B, 0, none⟩ = some (.int .i64 n)) (L : List (Int × Int)) :
    Asks 103 (fun v => #[v, .pointer (some ⟨B, 0, none⟩)]) (fun x => decide (n ≤ x.2)) L w := fun W x _ hb => by
  have hB : B < w.heap.size := World.block_lt_of_cell? _ _ hc
  exact fits_any x.1 x.2 n B W ((hb.cell (p := ⟨B, 0, none⟩) hB).trans hc)
theorem enters_fits : ∀ args w, (callFunc 103 args).run Try.prog w = .ok (.enter 103 args) w := enters_of Try.func103 (by kernel_rfl) rfl

set_option maxHeartbeats 1000000 in
set_option maxRecDepth 100000 in
theorem take_range (p : Addr) (n : Int) (w : World) (hn : n < 1) :
    Calls Try.prog 85 #[.pointer (some p), .int .i64 n] w fun e w' => e = .returned (.tuple #[.int .i64 0, .int .i64 1]) ∧ Below w.heap.size w w' := by
  have hb := (Below.refl w.heap.size w).alloc (Nat.le_refl _) (.cells #[.int .i64 n] 3)
  go_enter Try.func85, Try.ntmps85
  go_wp2_with fail
  go_ret2
  exact ⟨rfl, hb⟩

set_option maxHeartbeats 4000000 in
set_option maxRecDepth 100000 in
theorem take_full (p g cap : Nat) (F N n : Int) (L : List (Int × Int)) (w : World) (hA : At w p g cap F N L) (hn : 1 ≤ n) (hL : ∀ x, x ∈ L → x.2 < n) :
    Calls Try.prog 85 #[.pointer (some ⟨p, 0, none⟩), .int .i64 n] w fun e w' => e = .returned (.tuple #[.int .i64 0, .int .i64 2]) ∧ Below w.heap.size w w' := by
  have hb := (Below.refl w.heap.size w).alloc (Nat.le_refl _) (.cells #[.int .i64 n] 3)
  have H := Lib.hid (index_miss_post (w.alloc (.cells #[.int .i64 n] 3)) 103 (.pointer (some ⟨w.heap.size, 0, none⟩)) (fun x => decide (n ≤ x.2)) enters_fits g cap L.length L (hA.later hb).own (asks_fits (by simp [go_sem]) L) rfl (fun y hy => by have := hL y hy; simp; omega))
  have lp := hA.lp
  have hf := hA.free
  generalize L.length = m at H hf
  have HB := Lib.hid hb
  clear hA hL hb
  go_enter Try.func85, Try.ntmps85
  go_wp2_with fail
  refine H.out.mono ?_
  rintro e w2 ⟨rfl, hb2⟩
  have hE := onB HB.out hb2
  clear hb2
  go_wp2_with fail
  go_ret2
  exact ⟨rfl, hE⟩

theorem cut_any (p g cap i : Nat) (F N n : Int) (A B : List (Int × Int)) (a k : Int) (w : World) (hA : At w p g cap F N (A ++ (a, k) :: B)) (hi : A.length = i) (hsmall : (A ++ (a, k) :: B).length ≤ 100000) (h0 : 1 ≤ n) (h1 : n ≤ k) (h2 : 0 ≤ a) (h3 : a + k ≤ 1000000) :
    Calls Try.prog 104 #[.pointer (some ⟨p, 0, none⟩), .int .i64 i, .int .i64 n] w fun e w' => e = .returned (.tuple #[]) ∧ At w' p g cap F N (cutAt A a k B n) ∧ Apart p g w w' := by
  unfold cutAt
  by_cases e : k = n
  · subst e
    rw [if_pos rfl]
    exact cut_whole p g cap i F N k A B a w hA hi hsmall
  · rw [if_neg e]
    exact cut_part p g cap i F N n A B a k w hA hi h0 (by omega) h2 h3

set_option maxHeartbeats 4000000 in
set_option maxRecDepth 100000 in
theorem take_hit (p g cap : Nat) (F N n : Int) (A B : List (Int × Int)) (a k : Int) (w : World) (hA : At w p g cap F N (A ++ (a, k) :: B)) (hn : 1 ≤ n) (hL : ∀ x, x ∈ A → x.2 < n) (hk : n ≤ k) (hsmall : (A ++ (a, k) :: B).length ≤ 100000) (h2 : 0 ≤ a) (h3 : a + k ≤ 1000000) :
    Calls Try.prog 85 #[.pointer (some ⟨p, 0, none⟩), .int .i64 n] w fun e w' => e = .returned (.tuple #[.int .i64 a, .int .i64 0]) ∧ At w' p g cap F N (cutAt A a k B n) ∧ Apart p g w w' := by
  have hb := (Below.refl w.heap.size w).alloc (Nat.le_refl _) (.cells #[.int .i64 n] 3)
  obtain ⟨i, hi⟩ : ∃ i, A.length = i := ⟨_, rfl⟩
  have H := Lib.hid (index_hit_post (w.alloc (.cells #[.int .i64 n] 3)) 103 (.pointer (some ⟨w.heap.size, 0, none⟩)) (fun x => decide (n ≤ x.2)) enters_fits g cap (A ++ (a, k) :: B).length i A B (a, k) (hA.later hb).own (asks_fits (by simp [go_sem]) _) rfl hi (fun y hy => by have := hL y hy; simp; omega) (by simp; omega))
  have lp := hA.lp
  have hf := hA.free
  obtain ⟨m, hm⟩ : ∃ m, (A ++ (a, k) :: B).length = m := ⟨_, rfl⟩
  have him : i < m := by rw [← hm, ← hi]; simp
  rw [hm] at H hf
  have HB := Lib.hid hb
  have HA := Lib.hid (hA.later hb)
  have HI := Lib.hid hi
  have HS := Lib.hid hsmall
  have HM := Lib.hid hm
  have cn : (w.alloc (.cells #[.int .i64 n] 3)).cell? ⟨w.heap.size, 0, none⟩ = some (.int .i64 n) := by simp [go_sem]
  have HN := Lib.hid cn
  have hmb : m ≤ 100000 := by rw [← hm]; exact hsmall
  clear hA hL hb hi hm hsmall cn
  go_enter Try.func85, Try.ntmps85
  go_wp2_with fail
  refine H.out.mono ?_
  rintro e w2 ⟨rfl, hb2⟩
  have hA2 := HA.out.later hb2
  have hE := onB HB.out hb2
  have cn := later hb2 HN.out
  have hf2 := hA2.free
  rw [HM.out] at hf2
  obtain ⟨c0, c1⟩ := hA2.own.cell (k := i) (x := (a, k)) (by rw [List.getElem?_append_right (by have := HI.out; omega), HI.out, Nat.sub_self]; rfl)
  have HA2 := Lib.hid hA2
  clear hb2 hA2
  go_wp2_with fail
  refine (cut_any p g cap i F N n A B a k w2 HA2.out HI.out HS.out hn hk h2 h3).mono ?_
  rintro e w3 ⟨rfl, hA3, hq⟩
  have hQ := (Apart.of_below hE).trans hq
  clear hq hE cn hf2 c0 c1
  go_wp2_with fail
  go_ret2
  exact ⟨rfl, hA3, hQ⟩

end Go.Proofs.Ythcgmfcibjinlaa.Ex

/- New, isBound; indexFor: where in the list a run goes. -/
namespace Go.Proofs.Ythcgmfcibjinlaa.Ex
open Go.RowKit Go.Sort

theorem asks_ahead (a n : Int) (L : List (Int × Int)) (w : World) :
    Asks 108 (fun v => #[.agg #[.int .i64 a, .int .i64 n], v]) (fun x => decide (a < x.1)) L w := fun W x _ _ => ahead_any a n x.1 x.2 W
theorem enters_ahead : ∀ args w, (callFunc 108 args).run Try.prog w = .ok (.enter 108 args) w := enters_of Try.func108 (by kernel_rfl) rfl
theorem asks_meets (a n : Int) (L : List (Int × Int)) (w : World) (h0 : 0 ≤ a) (h1 : 0 ≤ n) (h2 : a + n ≤ 1000000) (hL : ∀ x, x ∈ L → 0 ≤ x.1 ∧ 0 ≤ x.2 ∧ x.1 + x.2 ≤ 1000000) :
    Asks 94 (fun v => #[.agg #[.int .i64 a, .int .i64 n], v]) (fun x => decide (a < x.1 + x.2) && decide (x.1 < a + n)) L w := fun W x hx _ => by
  have := hL x hx
  exact meets_any a n x.1 x.2 W (by omega) (by omega) (by omega) (by omega)
theorem enters_meets : ∀ args w, (callFunc 94 args).run Try.prog w = .ok (.enter 94 args) w := enters_of Try.func94 (by kernel_rfl) rfl

set_option maxHeartbeats 1000000 in
set_option maxRecDepth 100000 in
theorem isBound_any (n : Int) (w : World) :
    Calls Try.prog 81 #[.int .i64 n] w fun e w' => e = .returned (.bool (decide (0 ≤ n ∧ n ≤ 65536))) ∧ w' = w := by
  by_cases h : 0 ≤ n
  · go_enter Try.func81, Try.ntmps81
    go_wp2
    go_ret
    exact ⟨by simp [h], rfl⟩
  · go_enter Try.func81, Try.ntmps81
    go_wp2
    go_ret
    have : ¬ 0 ≤ n := by omega
    exact ⟨by simp [this], rfl⟩

set_option maxHeartbeats 4000000 in
set_option maxRecDepth 100000 in
/-- indexFor: the first run that begins behind it; else the end. -/
theorem indexFor_any (p g cap i : Nat) (F N : Int) (A B : List (Int × Int)) (a n : Int) (w : World) (hA : At w p g cap F N (A ++ B)) (hi : A.length = i) (hlt : ∀ x, x ∈ A → x.1 ≤ a) (hgt : ∀ y B', B = y :: B' → a < y.1) :
    Calls Try.prog 95 #[.pointer (some ⟨p, 0, none⟩), .agg #[.int .i64 a, .int .i64 n]] w fun e w' => e = .returned (.int .i64 i) ∧ Below w.heap.size w w' := by
  have hb := ((Below.refl w.heap.size w).alloc (Nat.le_refl _) (.cells #[.int .i64 a, .int .i64 n] 145))
  have hb2 := hb.drew
  have hA1 := hA.later hb2
  have lp := hA.lp
  have hf := hA.free
  obtain ⟨m, hm⟩ : ∃ m, (A ++ B).length = m := ⟨_, rfl⟩
  rw [hm] at hf
  cases B with
  | nil =>
    rw [List.append_nil] at hA1 hm
    have him : i = m := by rw [← hi, ← hm]
    have H := Lib.hid (index_miss_pre (w.alloc (.cells #[.int .i64 a, .int .i64 n] 145)).drew 108 (.agg #[.int .i64 a, .int .i64 n]) (fun x => decide (a < x.1)) enters_ahead g cap m A hA1.own (asks_ahead a n _ _) hm (fun y hy => by have := hlt y hy; simp; omega))
    subst him
    have HB := Lib.hid hb2
    have HA := Lib.hid hA1
    have HM := Lib.hid hm
    clear hA hA1 hlt hgt hm hi hb hb2
    go_enter Try.func95, Try.ntmps95
    go_wp2_with fail
    go_region_with (go_at_call 102; refine H.out.mono ?_; rintro e w2 ⟨rfl, hb3⟩)
    all_goals
      have hA2 := HA.out.later hb3
      have hf2 := hA2.free
      rw [HM.out] at hf2
      have hE := onB HB.out hb3
      have lp2 := hA2.lp
      clear hb3 hA2 hf
      go_wp2_with fail
      go_ret
      exact ⟨rfl, hE⟩
  | cons y B' =>
    have hy := hgt y B' rfl
    have H := Lib.hid (index_hit_pre (w.alloc (.cells #[.int .i64 a, .int .i64 n] 145)).drew 108 (.agg #[.int .i64 a, .int .i64 n]) (fun x => decide (a < x.1)) enters_ahead g cap m i A B' y hA1.own (asks_ahead a n _ _) hm hi (fun z hz => by have := hlt z hz; simp; omega) (by simp; omega))
    have HB := Lib.hid hb2
    have him : i ≤ 9223372036854775807 := by
      obtain ⟨S, _, _, h1, h2⟩ := hA.own.heap
      unfold maxLen at h2
      rw [hm] at h1
      rw [← hi]
      have : A.length ≤ m := by rw [← hm]; simp
      omega
    clear hA hA1 hlt hgt hm hi hb hb2 hy
    go_enter Try.func95, Try.ntmps95
    go_wp2_with fail
    go_region_with (go_at_call 102; refine H.out.mono ?_; rintro e w2 ⟨rfl, hb3⟩)
    all_goals
      have hE := onB HB.out hb3
      clear hb3 hf
      go_wp2_with fail
      go_ret
      exact ⟨rfl, hE⟩

end Go.Proofs.Ythcgmfcibjinlaa.Ex

/- Give: refused, twice, or free again. -/
namespace Go.Proofs.Ythcgmfcibjinlaa.Ex
open Go.RowKit Go.Sort

theorem has_regrown (a n b m : Int) (W : World) (d : Nat) (os : Array Obj) (r : Bool) (hr : decide (1 ≤ m ∧ a ≤ b ∧ b + m ≤ a + n) = r) (h0 : 0 ≤ a) (h1 : a ≤ 1000000) (h2 : 0 ≤ n) (h3 : n ≤ 1000000) (hb : b ≤ 9223372036854775807) :
    Calls Try.prog 92 #[.agg #[.int .i64 a, .int .i64 n], .agg #[.int .i64 b, .int .i64 m]] (grow (redrawn W d) os) fun e w'' => e = .returned (.bool r) ∧ ∃ p : Regrown, w'' = grow (redrawn W p.d) p.os := by
  subst hr
  exact Calls.regrown_of (has_any a n b m _ h0 h1 h2 h3 hb)

/-- What a give leaves: the runs, joined behind and ahead; in the old row or in a new one. -/
def Gave (w w' : World) (p g : Nat) (F N : Int) (A : List (Int × Int)) (a n : Int) (B : List (Int × Int)) : Prop :=
  ∃ g' cap' m B' M, giveB A (a, n) B = A ++ (a, m) :: B' ∧ At w' p g' cap' F N M ∧ Apart p g w w' ∧ (g' = g ∨ w.heap.size ≤ g') ∧
    ((A = [] ∧ M = (a, m) :: B') ∨ ∃ A' z, A = A' ++ [z] ∧ M = joined A' z (a, m) B')

theorem bounds_of_good {lo hi : Int} {L : List (Int × Int)} (h : Good lo hi L) (h0 : 0 ≤ lo) (h1 : hi ≤ 1000000) : ∀ x, x ∈ L → 0 ≤ x.1 ∧ 0 ≤ x.2 ∧ x.1 + x.2 ≤ 1000000 := fun x hx => by
  have := good_mem h hx
  omega

/-- The join behind the run that was given. -/
theorem join_first (p g cap i : Nat) (F N : Int) (A : List (Int × Int)) (a n : Int) (B : List (Int × Int)) (w : World) (hA : At w p g cap F N (A ++ (a, n) :: B)) (hi : A.length = i) (hsmall : (A ++ (a, n) :: B).length ≤ 100000)
    (ha : 0 ≤ a) (hn : 0 ≤ n) (han : a + n ≤ 1000000) (hB : ∀ x, x ∈ B → 0 ≤ x.1 ∧ 0 ≤ x.2 ∧ x.1 + x.2 ≤ 1000000) :
    Calls Try.prog 97 #[.pointer (some ⟨p, 0, none⟩), .int .i64 i] w fun e w' => e = .returned (.tuple #[]) ∧ At w' p g cap F N (giveB A (a, n) B) ∧ Apart p g w w' := by
  cases B with
  | nil =>
    refine (join_last p g cap i F N _ w hA (by simp; omega) (by simp at hsmall; omega)).mono ?_
    rintro e w' ⟨rfl, rfl⟩
    exact ⟨rfl, hA, Apart.refl _ _ _⟩
  | cons y B =>
    have := hB y List.mem_cons_self
    exact join_two p g cap i F N A B a n y.1 y.2 w hA hi hsmall ha hn han (by omega) (by omega)

/-- .. and the one ahead of it. -/
theorem join_second (p g cap i : Nat) (F N : Int) (A : List (Int × Int)) (a m : Int) (B : List (Int × Int)) (w : World) (hA : At w p g cap F N (A ++ (a, m) :: B)) (hi : A.length = i) (hsmall : (A ++ (a, m) :: B).length ≤ 100000)
    (hm : 0 ≤ m) (hm2 : m ≤ 1000000) (hL : ∀ x, x ∈ A → 0 ≤ x.1 ∧ 0 ≤ x.2 ∧ x.1 + x.2 ≤ 1000000) :
    Calls Try.prog 97 #[.pointer (some ⟨p, 0, none⟩), .int .i64 ((i : Int) - 1)] w fun e w' => e = .returned (.tuple #[]) ∧ ∃ M, At w' p g cap F N M ∧ Apart p g w w' ∧ ((A = [] ∧ M = (a, m) :: B) ∨ ∃ A' z, A = A' ++ [z] ∧ M = joined A' z (a, m) B) := by
  rcases List.eq_nil_or_concat A with rfl | ⟨A', z, rfl⟩
  · obtain rfl : i = 0 := by simpa using hi.symm
    refine (join_less ⟨p, 0, none⟩ _ w (by omega)).mono ?_
    rintro e w' ⟨rfl, rfl⟩
    exact ⟨rfl, _, hA, Apart.refl _ _ _, Or.inl ⟨rfl, rfl⟩⟩
  · have hi2 : A'.length + 1 = i := by simpa using hi
    have hz := hL z (by simp)
    rw [show (i : Int) - 1 = (A'.length : Int) by omega]
    have e : (A' ++ [z]) ++ (a, m) :: B = A' ++ (z.1, z.2) :: (a, m) :: B := by simp
    rw [List.concat_eq_append] at hA hsmall ⊢
    rw [e] at hA hsmall
    refine (join_two p g cap A'.length F N A' B z.1 z.2 a m w hA rfl hsmall (by omega) (by omega) (by omega) hm hm2).mono ?_
    rintro e w' ⟨rfl, h1, h2⟩
    exact ⟨rfl, _, h1, h2, Or.inr ⟨A', z, rfl, rfl⟩⟩

/-- What Insert and the struct's store leave. -/
structure Put (W3 W4 : World) (p g : Nat) (F N : Int) (M : List (Int × Int)) (g' cap' n : Nat) : Prop where
  cell : ∃ L cap, W4.cell? ⟨p, 2, none⟩ = some (.slice (some ⟨g, 0, none⟩) L cap)
  frz : W4.frozen? ⟨p, 2, none⟩ = false
  lies : At (W4.setCell ⟨p, 2, none⟩ (.slice (some ⟨g', 0, none⟩) n cap')) p g' cap' F N M
  apart : Apart p g W3 (W4.setCell ⟨p, 2, none⟩ (.slice (some ⟨g', 0, none⟩) n cap'))
  new : g' = g ∨ W3.heap.size ≤ g'
theorem len_giveB {A B B' : List (Int × Int)} {a n k : Int} (h : giveB A (a, n) B = A ++ (a, k) :: B') (hs : (A ++ (a, n) :: B).length ≤ 100000) : (A ++ (a, k) :: B').length ≤ 100000 := by
  rw [← h]
  cases B with
  | nil => simpa [giveB] using hs
  | cons y B =>
    simp only [giveB, joined]
    split <;> simp at hs ⊢ <;> omega
theorem insert_at (p g cap i m : Nat) (F N : Int) (A B : List (Int × Int)) (a n : Int) (W3 W : World) (hA : At W3 p g cap F N (A ++ B)) (hi : A.length = i) (hm : (A ++ B).length = m) (hmb : m ≤ 90000)
    (hv : W.heap[W3.heap.size]? = some (.cells #[.int .i64 a, .int .i64 n] 145 (0, 0))) (hb : Below W3.heap.size W3 W) :
    Calls Try.prog 96 #[.slice (some ⟨g, 0, none⟩) m cap, .int .i64 i, .slice (some ⟨W3.heap.size, 0, none⟩) 1 1] W fun e w' => ∃ g' cap', e = .returned (.slice (some ⟨g', 0, none⟩) (m + 1) cap') ∧ Put W3 w' p g F N (A ++ (a, n) :: B) g' cap' (m + 1) := by
  have hA1 := hA.later hb
  have lg := hA.lg
  refine (insert_any W g cap i m W3.heap.size A B a n hA1.own hi (by rw [← hm, ← hi]; simp) (by rw [← hm, ← hi]; simp) (by omega) hv (by omega)).mono ?_
  rintro e w' ⟨g', cap', rfl, hO, hg, hat⟩
  have hbl : w'.heap[p]? = W.heap[p]? := hg.block p hA1.lp (by simpa using hA.ne)
  refine ⟨g', cap', rfl, ⟨_, _, (World.cell?_of_block (w := W) (a := ⟨p, 2, none⟩) hbl).trans hA1.free⟩, (World.frozen?_of_block (w := W) (a := ⟨p, 2, none⟩) hbl).trans hA1.fz, hA1.told hg hO hat _ ?_, ?_, ?_⟩
  · rw [← hm]; simp; omega
  · exact (Apart.of_below hb).trans (Apart.told hg _)
  · have := hb.size
    omega

set_option maxHeartbeats 4000000 in
set_option maxRecDepth 100000 in
/-- Not all of the room's places, or none: refused. -/
theorem give_range (p : Nat) (F N a n : Int) (w : World) (hf : w.cell? ⟨p, 0, none⟩ = some (.int .i64 F)) (hN : w.cell? ⟨p, 1, none⟩ = some (.int .i64 N)) (h0 : 0 ≤ F) (h1 : F ≤ 1000000) (h2 : 0 ≤ N) (h3 : N ≤ 1000000) (ha : a ≤ 9223372036854775807) (hr : ¬ (1 ≤ n ∧ F ≤ a ∧ a + n ≤ F + N)) :
    Calls Try.prog 68 #[.pointer (some ⟨p, 0, none⟩), .int .i64 a, .int .i64 n] w fun e w' => e = .returned (.int .i64 1) ∧ Below w.heap.size w w' := by
  have hb := ((Below.refl w.heap.size w).alloc (Nat.le_refl _) (.cells #[.int .i64 a, .int .i64 n] 145))
  have hf := later hb hf
  have hN := later hb hN
  have lp := World.block_lt_of_cell? _ _ hf
  have c0 : (w.alloc (.cells #[.int .i64 a, .int .i64 n] 145)).cell? ⟨w.heap.size, 0, none⟩ = some (.int .i64 a) := by simp [go_sem]
  have c1 : (w.alloc (.cells #[.int .i64 a, .int .i64 n] 145)).cell? ⟨w.heap.size, 1, none⟩ = some (.int .i64 n) := by simp [go_sem]
  have HR : Hid (decide (1 ≤ n ∧ F ≤ a ∧ a + n ≤ F + N) = false) := by show _ = _; simp; omega
  clear hr
  go_enter Try.func68, Try.ntmps68
  go_wp2_with fail
  generalize hW : (w.alloc (.cells #[.int .i64 a, .int .i64 n] 145)) = W at hb hf hN c0 c1 ⊢
  clear hW
  have k0 := cell_regrown hf
  have k1 := cell_regrown hN
  have k2 := cell_regrown c0
  have k3 := cell_regrown c1
  refine wp_region_quiet_below (by kernel_rfl) (by kernel_rfl) ?_
  repeat (first | go_big_quiet_skip | (quiet_step (exact has_regrown F N a n _ _ _ false HR.out h0 h1 h2 h3 ha)))
  refine wpQuiet_nil ?_
  intro _ hw'
  obtain ⟨⟨dq, osq⟩, hw''⟩ := hw'
  subst hw''
  have hE := onB hb (below_regrown W dq osq)
  clear k0 k1 k2 k3 hb
  go_wp2_with fail
  go_ret
  exact ⟨rfl, hE⟩

set_option maxHeartbeats 4000000 in
set_option maxRecDepth 100000 in
/-- One of them is free: twice. -/
theorem give_twice (p g cap : Nat) (F N a n : Int) (A B : List (Int × Int)) (x : Int × Int) (w : World) (hA : At w p g cap F N (A ++ x :: B)) (h0 : 0 ≤ F) (h1 : F ≤ 100000) (h2 : 0 ≤ N) (h3 : N ≤ 100000) (hr : 1 ≤ n ∧ F ≤ a ∧ a + n ≤ F + N)
    (hL : ∀ y, y ∈ A ++ x :: B → 0 ≤ y.1 ∧ 0 ≤ y.2 ∧ y.1 + y.2 ≤ 1000000) (hlo : ∀ y, y ∈ A → (decide (a < y.1 + y.2) && decide (y.1 < a + n)) = false) (hx : (decide (a < x.1 + x.2) && decide (x.1 < a + n)) = true) :
    Calls Try.prog 68 #[.pointer (some ⟨p, 0, none⟩), .int .i64 a, .int .i64 n] w fun e w' => e = .returned (.int .i64 5) ∧ Below w.heap.size w w' := by
  have hf := hA.first
  have hN := hA.places
  have an1 : a + n ≤ 1000000 := by omega
  replace h1 : F ≤ 1000000 := by omega
  replace h3 : N ≤ 1000000 := by omega
  have hb := ((Below.refl w.heap.size w).alloc (Nat.le_refl _) (.cells #[.int .i64 a, .int .i64 n] 145))
  have hf := later hb hf
  have hN := later hb hN
  have lp := World.block_lt_of_cell? _ _ hf
  have c0 : (w.alloc (.cells #[.int .i64 a, .int .i64 n] 145)).cell? ⟨w.heap.size, 0, none⟩ = some (.int .i64 a) := by simp [go_sem]
  have c1 : (w.alloc (.cells #[.int .i64 a, .int .i64 n] 145)).cell? ⟨w.heap.size, 1, none⟩ = some (.int .i64 n) := by simp [go_sem]
  have HR : Hid (decide (1 ≤ n ∧ F ≤ a ∧ a + n ≤ F + N) = true) := by show _ = _; simp; omega
  have ha : a ≤ 9223372036854775807 := by omega
  have an0 : 0 ≤ a := by omega
  have n0 : 0 ≤ n := by omega
  have HA := Lib.hid hA
  obtain ⟨m, hm⟩ : ∃ m, (A ++ x :: B).length = m := ⟨_, rfl⟩
  have HM := Lib.hid hm
  have HL := Lib.hid hL
  have HLO := Lib.hid hlo
  have HX := Lib.hid hx
  clear hlo hx
  clear hr hA hm hL
  go_enter Try.func68, Try.ntmps68
  go_wp2_with fail
  generalize hW : (w.alloc (.cells #[.int .i64 a, .int .i64 n] 145)) = W at hb hf hN c0 c1 ⊢
  clear hW
  have k0 := cell_regrown hf
  have k1 := cell_regrown hN
  have k2 := cell_regrown c0
  have k3 := cell_regrown c1
  refine wp_region_quiet_below (by kernel_rfl) (by kernel_rfl) ?_
  repeat (first | go_big_quiet_skip | (quiet_step (exact has_regrown F N a n _ _ _ true HR.out h0 h1 h2 h3 ha)))
  refine wpQuiet_nil ?_
  intro _ hw'
  obtain ⟨⟨dq, osq⟩, hw''⟩ := hw'
  subst hw''
  have hE := onB hb (below_regrown W dq osq)
  replace c0 := k2 dq osq
  replace c1 := k3 dq osq
  clear k0 k1 k2 k3 hb hf hN
  generalize grow (redrawn W dq) osq = W1 at hE c0 c1 ⊢
  go_wp2_with fail
  have hA1 := HA.out.later hE
  have hf := hA1.free
  rw [HM.out] at hf
  have k0 := cell_regrown hf
  have k2 := cell_regrown c0
  have k3 := cell_regrown c1
  have cC : ∀ d os, Calls Try.prog 93 #[.slice (some ⟨g, 0, none⟩) m cap, .func (.func 94) #[.agg #[.int .i64 a, .int .i64 n]] #[]] (grow (redrawn W1 d) os) fun e w'' => e = .returned (.bool true) ∧ ∃ p : Regrown, w'' = grow (redrawn W1 p.d) p.os := fun d os =>
    Calls.regrown_of (contains_hit _ 94 (.agg #[.int .i64 a, .int .i64 n]) (fun x => decide (a < x.1 + x.2) && decide (x.1 < a + n)) enters_meets g cap m A.length A B x (hA1.later (below_regrown W1 d os)).own (asks_meets a n _ _ an0 n0 an1 HL.out) HM.out rfl HLO.out HX.out)
  have HC := Lib.hid cC
  have HA1 := Lib.hid hA1
  clear cC hA1
  refine wp_region_quiet_below (by kernel_rfl) (by kernel_rfl) ?_
  repeat (first | go_big_quiet_skip | (quiet_step (exact HC.out _ _)))
  refine wpQuiet_nil ?_
  intro _ hw'
  obtain ⟨⟨dr, osr⟩, hw''⟩ := hw'
  subst hw''
  have hE2 := onB hE (below_regrown W1 dr osr)
  have c0 := k2 dr osr
  have c1 := k3 dr osr
  clear k0 k2 k3 hE hf HC HA1
  go_wp2_with fail
  go_ret
  exact ⟨rfl, hE2⟩

set_option maxHeartbeats 4000000 in
set_option maxRecDepth 100000 in
/-- None of them is free: they are now. -/
theorem give_ok (p g cap i : Nat) (F N a n : Int) (A B : List (Int × Int)) (w : World) (hA : At w p g cap F N (A ++ B)) (h0 : 0 ≤ F) (h1 : F ≤ 100000) (h2 : 0 ≤ N) (h3 : N ≤ 100000) (hr : 1 ≤ n ∧ F ≤ a ∧ a + n ≤ F + N) (hi : A.length = i) (hsmall : (A ++ B).length ≤ 90000)
    (hL : ∀ x, x ∈ A ++ B → 0 ≤ x.1 ∧ 0 ≤ x.2 ∧ x.1 + x.2 ≤ 1000000) (hno : ∀ y, y ∈ A ++ B → (decide (a < y.1 + y.2) && decide (y.1 < a + n)) = false) (hlt : ∀ x, x ∈ A → x.1 ≤ a) (hgt : ∀ y B', B = y :: B' → a < y.1) (hGB : Good (a + n) (F + N) B) :
    Calls Try.prog 68 #[.pointer (some ⟨p, 0, none⟩), .int .i64 a, .int .i64 n] w fun e w' => e = .returned (.int .i64 0) ∧ Gave w w' p g F N A a n B := by
  have hf := hA.first
  have hN := hA.places
  have hpg := hA.ne
  have lg := hA.lg
  have lpw := hA.lp
  have an1 : a + n ≤ 1000000 := by omega
  have fn : F + N ≤ 1000000 := by omega
  replace h1 : F ≤ 1000000 := by omega
  replace h3 : N ≤ 1000000 := by omega
  have hb := ((Below.refl w.heap.size w).alloc (Nat.le_refl _) (.cells #[.int .i64 a, .int .i64 n] 145))
  have hf := later hb hf
  have hN := later hb hN
  have lp := World.block_lt_of_cell? _ _ hf
  have c0 : (w.alloc (.cells #[.int .i64 a, .int .i64 n] 145)).cell? ⟨w.heap.size, 0, none⟩ = some (.int .i64 a) := by simp [go_sem]
  have c1 : (w.alloc (.cells #[.int .i64 a, .int .i64 n] 145)).cell? ⟨w.heap.size, 1, none⟩ = some (.int .i64 n) := by simp [go_sem]
  have HR : Hid (decide (1 ≤ n ∧ F ≤ a ∧ a + n ≤ F + N) = true) := by show _ = _; simp; omega
  have ha : a ≤ 9223372036854775807 := by omega
  have an0 : 0 ≤ a := by omega
  have n0 : 0 ≤ n := by omega
  have HA := Lib.hid hA
  obtain ⟨m, hm⟩ : ∃ m, (A ++ B).length = m := ⟨_, rfl⟩
  have HM := Lib.hid hm
  have HL := Lib.hid hL
  have him : i ≤ m := by rw [← hm, ← hi]; simp
  have hmb : m ≤ 90000 := by rw [← hm]; exact hsmall
  have HI := Lib.hid hi
  have hr1 : 1 ≤ n := hr.1
  have an2 : a + n ≤ F + N := by omega
  have HSM := Lib.hid (show (A ++ (a, n) :: B).length ≤ 100000 by have h := hsmall; simp at h ⊢; omega)
  have HBB := Lib.hid (fun x (hx : x ∈ B) => hL x (List.mem_append_right _ hx))
  have HLA := Lib.hid (fun x (hx : x ∈ A) => hL x (List.mem_append_left _ hx))
  have HNO := Lib.hid hno
  have HLT := Lib.hid hlt
  have HGT := Lib.hid hgt
  clear hno hlt hgt hi hsmall
  clear hr hA hm hL
  go_enter Try.func68, Try.ntmps68
  go_wp2_with fail
  generalize hW : (w.alloc (.cells #[.int .i64 a, .int .i64 n] 145)) = W at hb hf hN c0 c1 ⊢
  clear hW
  have k0 := cell_regrown hf
  have k1 := cell_regrown hN
  have k2 := cell_regrown c0
  have k3 := cell_regrown c1
  refine wp_region_quiet_below (by kernel_rfl) (by kernel_rfl) ?_
  repeat (first | go_big_quiet_skip | (quiet_step (exact has_regrown F N a n _ _ _ true HR.out h0 h1 h2 h3 ha)))
  refine wpQuiet_nil ?_
  intro _ hw'
  obtain ⟨⟨dq, osq⟩, hw''⟩ := hw'
  subst hw''
  have hE := onB hb (below_regrown W dq osq)
  replace c0 := k2 dq osq
  replace c1 := k3 dq osq
  clear k0 k1 k2 k3 hb hf hN
  generalize grow (redrawn W dq) osq = W1 at hE c0 c1 ⊢
  go_wp2_with fail
  have hA1 := HA.out.later hE
  have hf := hA1.free
  rw [HM.out] at hf
  have k0 := cell_regrown hf
  have k2 := cell_regrown c0
  have k3 := cell_regrown c1
  have cC : ∀ d os, Calls Try.prog 93 #[.slice (some ⟨g, 0, none⟩) m cap, .func (.func 94) #[.agg #[.int .i64 a, .int .i64 n]] #[]] (grow (redrawn W1 d) os) fun e w'' => e = .returned (.bool false) ∧ ∃ p : Regrown, w'' = grow (redrawn W1 p.d) p.os := fun d os =>
    Calls.regrown_of (contains_miss _ 94 (.agg #[.int .i64 a, .int .i64 n]) (fun x => decide (a < x.1 + x.2) && decide (x.1 < a + n)) enters_meets g cap m (A ++ B) (hA1.later (below_regrown W1 d os)).own (asks_meets a n _ _ an0 n0 an1 HL.out) HM.out HNO.out)
  have HC := Lib.hid cC
  have HA1 := Lib.hid hA1
  clear cC hA1
  refine wp_region_quiet_below (by kernel_rfl) (by kernel_rfl) ?_
  repeat (first | go_big_quiet_skip | (quiet_step (exact HC.out _ _)))
  refine wpQuiet_nil ?_
  intro _ hw'
  obtain ⟨⟨dr, osr⟩, hw''⟩ := hw'
  subst hw''
  have hE2 := onB hE (below_regrown W1 dr osr)
  have c0 := k2 dr osr
  have c1 := k3 dr osr
  clear k0 k2 k3 hE hf HC HA1
  generalize grow (redrawn W1 dr) osr = W2 at hE2 c0 c1 ⊢
  go_wp2_with fail
  refine (indexFor_any p g cap i F N A B a n W2 (HA.out.later hE2) HI.out HLT.out HGT.out).mono ?_
  rintro e W3 ⟨rfl, hb⟩
  replace c0 := later hb c0
  replace c1 := later hb c1
  have hE3 := onB hE2 hb
  clear hb hE2
  have hA3 := HA.out.later hE3
  have hf := hA3.free
  rw [HM.out] at hf
  have fz := hA3.fz
  have lp3 := hA3.lp
  have lg3 := hA3.lg
  have HA3 := Lib.hid hA3
  have HE3 := Lib.hid hE3
  clear hA3 hE3
  have hw1 : IntKind.i64.wrap ((i : Int) - 1) = (i : Int) - 1 := by rw [IntKind.wrap_i64]; omega
  go_wp2_with fail
  have HIN := Lib.hid (insert_at p g cap i m F N A B a n W3 (W3.alloc (.cells #[.int .i64 a, .int .i64 n] 145)).drew HA3.out HI.out HM.out hmb (heap_alloc_new W3 _) (((Below.refl _ _).alloc (Nat.le_refl _) _).drew))
  go_region_with (go_at_call 96; refine HIN.out.mono ?_; rintro e W4 ⟨g', cap', rfl, hT⟩; obtain ⟨L4, cap4, f4⟩ := hT.cell; have z4 := hT.frz)
  all_goals
    have hE4 := hT.lies
    have hQ4 := hT.apart
    have hat := hT.new
    have HQ4 := Lib.hid ((Apart.of_below (p := p) (d := g) HE3.out).trans hQ4)
    have hb4 := HE3.out.size
    have HE4 := Lib.hid hE4
    have lp4 := hE4.lp
    clear hT f4 z4 hE4 hQ4 c0 c1 hf fz
    obtain ⟨k, B', hgB, hk1, hk2, hGB', _, _⟩ := give_good (A := A) hGB hr1 an2
    have HGB := Lib.hid hgB
    clear hgB hGB'
    go_wp2_with fail
    refine (join_first p g' cap' i F N A a n B _ HE4.out HI.out HSM.out an0 n0 an1 HBB.out).mono ?_
    rintro e W6 ⟨rfl, hE6, hQ6⟩
    rw [HGB.out] at hE6
    have hQ := HQ4.out.step hQ6 (by omega)
    have HE6 := Lib.hid hE6
    have HQ := Lib.hid hQ
    have HSM2 := Lib.hid (len_giveB HGB.out HSM.out)
    clear hE6 hQ6 hQ
    go_wp2_with fail
    refine (join_second p g' cap' i F N A a k B' _ HE6.out HI.out HSM2.out (by omega) (by omega) HLA.out).mono ?_
    rintro e W7 ⟨rfl, M, hE7, hQ7, hM⟩
    have hQ := HQ.out.step hQ7 (by omega)
    have HF := Lib.hid (show Gave w W7 p g F N A a n B from ⟨g', cap', k, B', M, HGB.out, hE7, hQ, by omega, hM⟩)
    clear hE7 hQ7 hM hQ
    go_wp2_with fail
    go_ret
    exact ⟨rfl, HF.out⟩

end Go.Proofs.Ythcgmfcibjinlaa.Ex
