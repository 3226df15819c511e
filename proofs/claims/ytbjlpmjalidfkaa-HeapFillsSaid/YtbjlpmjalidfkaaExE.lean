/- Room as it lies; what a call leaves as it was; cut, join, indexFor. -/
import Derived.Test.YtbjlpmjalidfkaaExD
import Derived.Deep.RegionHeld3
namespace Go.Proofs.Ytbjlpmjalidfkaa.Ex
open Go.RowKit Go.Sort

/-- Nothing that was there has turned but in two blocks. -/
structure Apart (p d : Nat) (w w' : World) : Prop where
  os : w'.os = w.os
  tape : w'.tape = w.tape
  output : w'.output = w.output
  size : w.heap.size ≤ w'.heap.size
  block : ∀ k, k < w.heap.size → k ≠ p → k ≠ d → w'.heap[k]? = w.heap[k]?

theorem Apart.refl (p d : Nat) (w : World) : Apart p d w w := ⟨rfl, rfl, rfl, Nat.le_refl _, fun _ _ _ _ => rfl⟩
theorem Apart.trans {p d : Nat} {a b c : World} (h : Apart p d a b) (k : Apart p d b c) : Apart p d a c :=
  ⟨k.os.trans h.os, k.tape.trans h.tape, k.output.trans h.output, Nat.le_trans h.size k.size, fun i hi h1 h2 => (k.block i (Nat.lt_of_lt_of_le hi h.size) h1 h2).trans (h.block i hi h1 h2)⟩
/-- A second call, whose row is the first one's or a new one. -/
theorem Apart.step {p d d' : Nat} {a b c : World} (h : Apart p d a b) (k : Apart p d' b c) (hd : d' = d ∨ a.heap.size ≤ d') : Apart p d a c :=
  ⟨k.os.trans h.os, k.tape.trans h.tape, k.output.trans h.output, Nat.le_trans h.size k.size, fun i hi h1 h2 => (k.block i (Nat.lt_of_lt_of_le hi h.size) h1 (by omega)).trans (h.block i hi h1 h2)⟩
theorem Apart.of_below {p d : Nat} {w w' : World} (h : Below w.heap.size w w') : Apart p d w w' := ⟨h.os, h.tape, h.output, h.size, fun k hk _ _ => h.block k hk⟩
theorem Apart.of_grown {p d : Nat} {w w' : World} (h : w.grownBy w' (some d)) : Apart p d w w' := ⟨h.os, h.tape, h.output, h.size, fun k hk _ h2 => h.block k hk (by simpa using h2)⟩
theorem Apart.setP (p d i : Nat) (v : Value) (w : World) : Apart p d w (w.setCell ⟨p, i, none⟩ v) :=
  ⟨rfl, rfl, rfl, by simp [World.setCell], fun k _ h _ => Below.heap_setCell _ _ _ _ h⟩
theorem Apart.setD (p d i : Nat) (v : Value) (w : World) : Apart p d w (w.setCell ⟨d, i, none⟩ v) :=
  ⟨rfl, rfl, rfl, by simp [World.setCell], fun k _ _ h => Below.heap_setCell _ _ _ _ h⟩
theorem Apart.below {p d B : Nat} {w w' : World} (h : Apart p d w w') (hp : B ≤ p) (hd : B ≤ d) (hB : B ≤ w.heap.size) : Below B w w' :=
  ⟨h.os, h.tape, h.output, h.size, fun k hk => h.block k (by omega) (by omega) (by omega)⟩
theorem Apart.then {p d : Nat} {a b c : World} (h : Apart p d a b) (k : Below a.heap.size b c) : Apart p d a c :=
  ⟨k.os.trans h.os, k.tape.trans h.tape, k.output.trans h.output, Nat.le_trans h.size k.size, fun i hi h1 h2 => (k.block i hi).trans (h.block i hi h1 h2)⟩
theorem Apart.thenB {p d : Nat} {a b c : World} (h : Apart p d a b) (k : Below b.heap.size b c) : Apart p d a c := h.then (k.mono h.size)
theorem Apart.cell {p d : Nat} {w w' : World} (h : Apart p d w w') {a : Addr} {v : Value} (hc : w.cell? a = some v) (h1 : a.block ≠ p) (h2 : a.block ≠ d) : w'.cell? a = some v :=
  (World.cell?_of_block (w := w) (h.block a.block (World.block_lt_of_cell? _ _ hc) h1 h2)).trans hc
theorem Apart.frozen {p d : Nat} {w w' : World} (h : Apart p d w w') {a : Addr} (hl : a.block < w.heap.size) (h1 : a.block ≠ p) (h2 : a.block ≠ d) : w'.frozen? a = w.frozen? a :=
  World.frozen?_of_block (w := w) (h.block a.block hl h1 h2)

/-- ROOM AS IT LIES: the struct's block, the block of its runs, how many fit in, the whole, the runs. -/
structure At (w : World) (p g cap : Nat) (F N : Int) (L : List (Int × Int)) : Prop where
  first : w.cell? ⟨p, 0, none⟩ = some (.int .i64 F)
  places : w.cell? ⟨p, 1, none⟩ = some (.int .i64 N)
  free : w.cell? ⟨p, 2, none⟩ = some (.slice (some ⟨g, 0, none⟩) L.length cap)
  fz : w.frozen? ⟨p, 2, none⟩ = false
  own : Own 145 w g cap L
  ne : p ≠ g
  lp : p < w.heap.size

section
variable {w w' : World} {p g cap : Nat} {F N : Int} {L : List (Int × Int)}
theorem At.lg (h : At w p g cap F N L) : g < w.heap.size := h.own.lt
theorem At.move (h : At w p g cap F N L) (hp : w'.heap[p]? = w.heap[p]?) (hd : w'.heap[g]? = w.heap[g]?) (hs : w.heap.size ≤ w'.heap.size) : At w' p g cap F N L :=
  ⟨(World.cell?_of_block (w := w) hp).trans h.first, (World.cell?_of_block (w := w) hp).trans h.places, (World.cell?_of_block (w := w) hp).trans h.free, (World.frozen?_of_block (w := w) hp).trans h.fz,
    h.own.move hd, h.ne, Nat.lt_of_lt_of_le h.lp hs⟩
theorem At.below (h : At w p g cap F N L) {B : Nat} (hb : Below B w w') (hp : p < B) (hd : g < B) : At w' p g cap F N L := h.move (hb.block p hp) (hb.block g hd) hb.size
theorem At.later (h : At w p g cap F N L) (hb : Below w.heap.size w w') : At w' p g cap F N L := h.below hb h.lp h.lg
theorem At.apart (h : At w p g cap F N L) {p' d' : Nat} (hb : Apart p' d' w w') (h1 : p ≠ p') (h2 : p ≠ d') (h3 : g ≠ p') (h4 : g ≠ d') : At w' p g cap F N L :=
  h.move (hb.block p h.lp h1 h2) (hb.block g h.lg h3 h4) hb.size
/-- One run is written anew. -/
theorem At.put {A B : List (Int × Int)} {x : Int × Int} (h : At w p g cap F N (A ++ x :: B)) (k : Nat) (hk : A.length = k) (a m : Int) :
    At ((w.setCell ⟨g, k * 2, none⟩ (.int .i64 a)).setCell ⟨g, k * 2 + 1, none⟩ (.int .i64 m)) p g cap F N (A ++ (a, m) :: B) := by
  have hn : p ≠ g := h.ne
  have e0 : ∀ {j}, (⟨g, k * 2, none⟩ : Addr) ≠ ⟨p, j, none⟩ := fun e => hn (by simpa using (congrArg Addr.block e).symm)
  have e1 : ∀ {j}, (⟨g, k * 2 + 1, none⟩ : Addr) ≠ ⟨p, j, none⟩ := fun e => hn (by simpa using (congrArg Addr.block e).symm)
  refine ⟨?_, ?_, ?_, ?_, Own.put (y := (a, m)) hk h.own, h.ne, by simpa [World.setCell] using h.lp⟩
  · exact (World.cell?_setCell_other _ _ _ _ e1).trans ((World.cell?_setCell_other _ _ _ _ e0).trans h.first)
  · exact (World.cell?_setCell_other _ _ _ _ e1).trans ((World.cell?_setCell_other _ _ _ _ e0).trans h.places)
  · rw [show (A ++ (a, m) :: B).length = (A ++ x :: B).length by simp]
    exact (World.cell?_setCell_other _ _ _ _ e1).trans ((World.cell?_setCell_other _ _ _ _ e0).trans h.free)
  · exact (World.frozen?_setCell _ _ _ _).trans ((World.frozen?_setCell _ _ _ _).trans h.fz)
/-- The row's runs are other ones now, or there is a new row; the struct is told. -/
theorem At.told (h : At w p g cap F N L) {g' cap' : Nat} {M : List (Int × Int)} (hg : w.grownBy w' (some g)) (hO : Own 145 w' g' cap' M) (hat : g' = g ∨ w.heap.size ≤ g') (n : Nat) (hn : M.length = n) :
    At (w'.setCell ⟨p, 2, none⟩ (.slice (some ⟨g', 0, none⟩) n cap')) p g' cap' F N M := by
  have lp := h.lp
  have lg := h.lg
  have ne := h.ne
  have hne : p ≠ g' := by omega
  have hb : w'.heap[p]? = w.heap[p]? := hg.block p h.lp (by simp [h.ne])
  subst hn
  refine ⟨?_, ?_, ?_, ?_, ?_, hne, by have := hg.size; simp [World.setCell]; omega⟩
  · exact (World.cell?_setCell_other _ _ _ _ (by simp)).trans ((World.cell?_of_block (w := w) hb).trans h.first)
  · exact (World.cell?_setCell_other _ _ _ _ (by simp)).trans ((World.cell?_of_block (w := w) hb).trans h.places)
  · exact World.cell?_setCell_same _ _ _ ((World.cell?_of_block (w := w) hb).trans h.free)
  · exact (World.frozen?_setCell _ _ _ _).trans ((World.frozen?_of_block (w := w) hb).trans h.fz)
  · exact hO.move (Below.heap_setCell _ _ _ _ (Ne.symm hne))
theorem Apart.told (hg : w.grownBy w' (some g)) (v : Value) : Apart p g w (w'.setCell ⟨p, 2, none⟩ v) :=
  (Apart.of_grown hg).trans (Apart.setP p g 2 v w')
end

/-- Delete of the run at i, as it is called: i and i + 1. -/
theorem delete_call (w : World) (g cap i n : Nat) (A B : List (Int × Int)) (x : Int × Int) (hO : Own 145 w g cap (A ++ x :: B)) (hA : A.length = i) (hn : B.length + i + 1 = n) :
    Calls Try.prog 112 #[.slice (some ⟨g, 0, none⟩) n cap, .int .i64 i, .int .i64 ((i : Int) + 1)] w fun e w' =>
      e = .returned (.slice (some ⟨g, 0, none⟩) (n - 1) cap) ∧ Own 145 w' g cap (A ++ B) ∧ w.grownBy w' (some g) := by
  have h := delete_any w g cap i (i + 1) n A B x hO hA rfl (by omega) (by omega)
  rwa [show ((i + 1 : Nat) : Int) = (i : Int) + 1 from rfl] at h

set_option maxHeartbeats 4000000 in
set_option maxRecDepth 100000 in
/-- cut: a run loses its first places, all of them. -/
theorem cut_whole (p g cap i : Nat) (F N n : Int) (A B : List (Int × Int)) (a : Int) (w : World) (hA : At w p g cap F N (A ++ (a, n) :: B)) (hi : A.length = i) (hsmall : (A ++ (a, n) :: B).length ≤ 100000) :
    Calls Try.prog 104 #[.pointer (some ⟨p, 0, none⟩), .int .i64 i, .int .i64 n] w fun e w' => e = .returned (.tuple #[]) ∧ At w' p g cap F N (A ++ B) ∧ Apart p g w w' := by
  have lp := hA.lp
  have lg := hA.lg
  obtain ⟨m, hm⟩ : ∃ m, (A ++ (a, n) :: B).length = m := ⟨_, rfl⟩
  rw [hm] at hsmall
  have him : i < m := by rw [← hm, ← hi]; simp
  have hf := hA.free
  rw [hm] at hf
  obtain ⟨c0, c1⟩ := hA.own.cell (k := i) (x := (a, n)) (by rw [List.getElem?_append_right (by omega), hi, Nat.sub_self]; rfl)
  have hal := (Below.refl w.heap.size w).alloc (Nat.le_refl _) (.cells #[.int .i64 a, .int .i64 n] 145)
  have hA1 := hA.later hal
  have HA := Lib.hid hA1
  have HB := Lib.hid hal
  have H := Lib.hid (delete_call (w.alloc (.cells #[.int .i64 a, .int .i64 n] 145)) g cap i m A B (a, n) hA1.own hi (by rw [← hm, ← hi]; simp; omega))
  have hlen : (A ++ B).length = m - 1 := by rw [← hm]; simp
  have HL := Lib.hid hlen
  clear hA1 hal hlen hA hm hi
  go_enter Try.func104, Try.ntmps104
  go_wp2_with fail
  refine H.out.mono ?_
  rintro e w2 ⟨rfl, hO, hg⟩
  have hb : w2.heap[p]? = (w.alloc (.cells #[.int .i64 a, .int .i64 n] 145)).heap[p]? := hg.block p HA.out.lp (by simpa using HA.out.ne)
  have f2 := (World.cell?_of_block (w := w.alloc (.cells #[.int .i64 a, .int .i64 n] 145)) (a := ⟨p, 2, none⟩) hb).trans HA.out.free
  have z2 := (World.frozen?_of_block (w := w.alloc (.cells #[.int .i64 a, .int .i64 n] 145)) (a := ⟨p, 2, none⟩) hb).trans HA.out.fz
  have hE := At.told HA.out hg hO (Or.inl rfl) (m - 1) HL.out
  have hQ := (Apart.of_below HB.out).trans (Apart.told (p := p) hg (.slice (some ⟨g, 0, none⟩) (m - 1) cap))
  clear hb hg hO
  go_wp2_with fail
  refine bodyPost_ret (v := .tuple #[]) (by simp [results, Try.results104]) rfl ⟨rfl, hE, hQ⟩

set_option maxHeartbeats 4000000 in
set_option maxRecDepth 100000 in
/-- cut: a run loses its first places, not all. -/
theorem cut_part (p g cap i : Nat) (F N n : Int) (A B : List (Int × Int)) (a k : Int) (w : World) (hA : At w p g cap F N (A ++ (a, k) :: B)) (hi : A.length = i) (h0 : 1 ≤ n) (h1 : n < k) (h2 : 0 ≤ a) (h3 : a + k ≤ 1000000) :
    Calls Try.prog 104 #[.pointer (some ⟨p, 0, none⟩), .int .i64 i, .int .i64 n] w fun e w' => e = .returned (.tuple #[]) ∧ At w' p g cap F N (A ++ (a + n, k - n) :: B) ∧ Apart p g w w' := by
  have lp := hA.lp
  have lg := hA.lg
  have ne := hA.ne
  obtain ⟨m, hm⟩ : ∃ m, (A ++ (a, k) :: B).length = m := ⟨_, rfl⟩
  have him : i < m := by rw [← hm, ← hi]; simp
  have hf := hA.free
  rw [hm] at hf
  obtain ⟨c0, c1⟩ := hA.own.cell (k := i) (x := (a, k)) (by rw [List.getElem?_append_right (by omega), hi, Nat.sub_self]; rfl)
  have z0 := hA.own.frozen (i * 2)
  have z1 := hA.own.frozen (i * 2 + 1)
  have hal := (Below.refl w.heap.size w).alloc (Nat.le_refl _) (.cells #[.int .i64 a, .int .i64 k] 145)
  have hkn : (k == n) = false := by simp; omega
  have HA := Lib.hid hA
  have HB := Lib.hid hal
  have HI := Lib.hid hi
  have hw1 : IntKind.i64.wrap (a + n) = a + n := by rw [IntKind.wrap_i64]; omega
  have hw2 : IntKind.i64.wrap (k - n) = k - n := by rw [IntKind.wrap_i64]; omega
  clear hal hA hm hi
  go_enter Try.func104, Try.ntmps104
  go_wp2_with fail
  go_region
  have hE := HA.out.put i HI.out (a + n) (k - n)
  have hB9 : Below (((w.setCell ⟨g, i * 2, none⟩ (.int .i64 (a + n))).setCell ⟨g, i * 2 + 1, none⟩ (.int .i64 (k - n)))).heap.size ((w.setCell ⟨g, i * 2, none⟩ (.int .i64 (a + n))).setCell ⟨g, i * 2 + 1, none⟩ (.int .i64 (k - n)))
      (((w.setCell ⟨g, i * 2, none⟩ (.int .i64 (a + n))).setCell ⟨g, i * 2 + 1, none⟩ (.int .i64 (k - n))).alloc (.cells #[.int .i64 a, .int .i64 k] 145)).drew := ((Below.refl _ _).alloc (Nat.le_refl _) _).drew
  have hQ := ((Apart.setD p g (i * 2) (.int .i64 (a + n)) w).trans (Apart.setD p g (i * 2 + 1) (.int .i64 (k - n)) _)).thenB hB9
  replace hE := hE.later hB9
  clear hB9
  go_wp2_with fail
  go_end0
  exact ⟨rfl, hE, hQ⟩

end Go.Proofs.Ytbjlpmjalidfkaa.Ex
