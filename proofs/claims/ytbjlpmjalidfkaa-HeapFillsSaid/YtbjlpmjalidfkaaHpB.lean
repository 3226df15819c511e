/- A heap as it lies: its struct, its arena, its classes' rings and the large ones', its room; whose each block is. -/
import Derived.Test.YtbjlpmjalidfkaaHpA
import Derived.Test.YtbjlpmjalidfkaaRiG
import Derived.Test.YtbjlpmjalidfkaaExL
namespace Go.Proofs.Ytbjlpmjalidfkaa
open Go.RowKit

/-- A ring's own blocks. -/
def Spot.Own (s : Spot) (b : Nat) : Prop := b = s.r ∨ b = s.a1 ∨ b = s.n1 ∨ b = s.a2 ∨ b = s.n2
theorem RingD.under {s : Spot} {R : Rows} {D : Nat → Int} {w : World} (h : RingD s R D w) : s.p < w.heap.size ∧ s.d < w.heap.size ∧ ∀ b, s.Own b → b < w.heap.size := by
  obtain ⟨C, F, h, -⟩ := h
  refine ⟨h.lp, h.ld, fun b hb => ?_⟩
  rcases hb with rfl | rfl | rfl | rfl | rfl
  · exact h.lr
  · exact World.block_lt_of_cell? _ _ h.ba1
  · exact World.block_lt_of_cell? _ _ h.bn1
  · exact World.block_lt_of_cell? _ _ h.ba2
  · exact World.block_lt_of_cell? _ _ h.bn2

/-- A new ring; all of its blocks are new. -/
def NewlyD (p d n : Nat) (D : Nat → Int) (w : World) (e : Ending) (w' : World) : Prop :=
  ∃ s : Spot, e = .returned (.pointer (some ⟨s.r, 0, none⟩)) ∧ s.p = p ∧ s.d = d ∧ s.n = n ∧ RingD s none4 D w' ∧ Below w.heap.size w w' ∧ ∀ b, s.Own b → w.heap.size ≤ b
set_option maxHeartbeats 4000000 in
set_option maxRecDepth 100000 in
theorem ringd_new (p d n : Nat) (D : Nat → Int) (u : Int) (w : World) (hA : At w p d n D u) (hn : n ≤ 65536) :
    Calls Try.prog 40 #[.pointer (some ⟨p, 0, none⟩)] w (NewlyD p d n D w) := by
  have HA := Lib.hid hA
  clear hA
  go_enter Try.func40, Try.ntmps40
  go_wp2_with fail
  refine (linkAt_any p 1 w).mono ?_
  rintro e w2 ⟨a1, n1, rfl, x1, x2, x3, x4, hb2⟩
  have H2 := Lib.hid (And.intro x1 (And.intro x2 (And.intro x3 (And.intro x4 hb2))))
  clear x1 x2 x3 x4 hb2
  go_wp2_with fail
  refine (linkAt_any p 2 w2).mono ?_
  rintro e w3 ⟨a2, n2, rfl, x1, x2, x3, x4, hb3⟩
  have H3 := Lib.hid (And.intro x1 (And.intro x2 (And.intro x3 (And.intro x4 hb3))))
  clear x1 x2 x3 x4 hb3
  go_wp2_with fail
  obtain ⟨x1, x2, x3, x4, hb2⟩ := H2.out
  obtain ⟨y1, y2, y3, y4, hb3⟩ := H3.out
  have lp := HA.out.lp
  have ld := HA.out.ld
  have hs2 := hb2.size
  have hs3 := hb3.size
  have hb := onB' hb2 hb3
  refine bodyPost_ret (v := .pointer (some ⟨w3.heap.size, 0, none⟩)) (by simp [results, Try.results40, go_sem]) rfl ?_
  refine ⟨⟨w3.heap.size, p, d, n, a1, n1, a2, n2⟩, rfl, rfl, rfl, rfl, ⟨fun _ => 0, fun _ => 0, ?_, ?_⟩, hb.alloc (by omega) _, fun b hb => by unfold Spot.Own at hb; simp only at hb; omega⟩
  · have hx := (Below.refl w3.heap.size w3).alloc (Nat.le_refl _) (.cells #[.pointer (some ⟨p, 0, none⟩), .func (.func 99) #[] #[.pointer (some ⟨a1, 0, none⟩), .pointer (some ⟨n1, 0, none⟩)], .func (.func 100) #[] #[.pointer (some ⟨a1, 0, none⟩), .pointer (some ⟨n1, 0, none⟩)], .func (.func 99) #[] #[.pointer (some ⟨a2, 0, none⟩), .pointer (some ⟨n2, 0, none⟩)], .func (.func 100) #[] #[.pointer (some ⟨a2, 0, none⟩), .pointer (some ⟨n2, 0, none⟩)], .int .i64 0, .int .i64 0, .int .i64 0, .int .i64 0, .int .i64 0, .int .i64 0, .int .i64 0, .int .i64 0] 130)
    have l1 := World.block_lt_of_cell? _ _ (later' hb3 x1)
    have l2 := World.block_lt_of_cell? _ _ (later' hb3 x2)
    have l3 := World.block_lt_of_cell? _ _ y1
    have l4 := World.block_lt_of_cell? _ _ y2
    simp only at l1 l2 l3 l4
    refine ⟨by simp [go_sem], by simp [go_sem], by simp [go_sem], by simp [go_sem], by simp [go_sem], ?_, ?_, fun j => by simp [go_sem], later' hx (later' hb3 x1), later' hx (later' hb3 x2), later' hx y1, later' hx y2, ⟨u, (HA.out.later hb).later hx⟩, hn, by simp; omega, by simp; omega, ?_, ?_, ?_, ?_⟩
    · intro k hk
      obtain rfl | rfl | rfl | rfl : k = 0 ∨ k = 1 ∨ k = 2 ∨ k = 3 := by omega
      all_goals simp [go_sem]
    · intro k hk
      obtain rfl | rfl | rfl | rfl : k = 0 ∨ k = 1 ∨ k = 2 ∨ k = 3 := by omega
      all_goals simp [go_sem]
    all_goals exact ⟨by simp only; omega, by simp only; omega, by simp only; omega⟩
  · exact ⟨rfl, rfl, rfl, rfl, (by simp [none4]), (by simp [none4]), (by simp [none4]), (by simp [none4]), trivial, ⟨by simp [none4, Rows.all], by simp [none4, Rows.all]⟩, by simp [none4, Rows.all]⟩

/-- Where a heap lies: its struct; its arena, the arena's words, how many; how many classes; where the room begins; the room; the classes' sizes; the rings, the large ones' last. -/
structure HSpot where
  h : Nat
  p : Nat
  d : Nat
  n : Nat
  k : Nat
  lim : Nat
  rp : Nat
  sz : Nat → Int
  S : Nat → Spot

/-- Whose each block is: 1000: nobody's of the heap. -/
structure Tags (x : HSpot) (T : Nat → Nat) (cb g : Nat) : Prop where
  h : T x.h = 0
  cb : T cb = 1
  p : T x.p = 2
  d : T x.d = 3
  rp : T x.rp = 4
  g : T g = 4
  s : ∀ i, i ≤ x.k → ∀ b, (x.S i).Own b → T b = 5 + i

/-- A HEAP AS IT LIES. -/
structure HLies (x : HSpot) (T : Nat → Nat) (D : Nat → Int) (R : Nat → Rows) (top par : Int) (L : List (Int × Int)) (w : World) : Prop where
  arena : w.cell? ⟨x.h, 0, none⟩ = some (.pointer (some ⟨x.p, 0, none⟩))
  large : w.cell? ⟨x.h, 2, none⟩ = some (.pointer (some ⟨(x.S x.k).r, 0, none⟩))
  room : w.cell? ⟨x.h, 3, none⟩ = some (.pointer (some ⟨x.rp, 0, none⟩))
  top : w.cell? ⟨x.h, 4, none⟩ = some (.int .i64 top)
  lim : w.cell? ⟨x.h, 5, none⟩ = some (.int .i64 x.lim)
  par : w.cell? ⟨x.h, 6, none⟩ = some (.int .i64 par)
  fz : ∀ j, w.frozen? ⟨x.h, j, none⟩ = false
  rings : ∀ i, i ≤ x.k → RingD (x.S i) (R i) D w
  sp : ∀ i, i ≤ x.k → (x.S i).p = x.p ∧ (x.S i).d = x.d ∧ (x.S i).n = x.n
  k1 : 1 ≤ x.k
  k6 : x.k ≤ 6
  rest : ∃ cb cap g, Tags x T cb g ∧ w.cell? ⟨x.h, 1, none⟩ = some (.slice (some ⟨cb, 0, none⟩) x.k cap) ∧
    (∀ i, i < x.k → w.cell? ⟨cb, i * 2, none⟩ = some (.int .i64 (x.sz i)) ∧ w.cell? ⟨cb, i * 2 + 1, none⟩ = some (.pointer (some ⟨(x.S i).r, 0, none⟩))) ∧
    Ex.Room w x.rp g x.lim (x.n - x.lim : Int) L

/-- What a call of a heap's leaves as it was: all that is nobody's of the heap. -/
structure HTurn (T T' : Nat → Nat) (w w' : World) : Prop where
  os : w'.os = w.os
  tape : w'.tape = w.tape
  output : w'.output = w.output
  size : w.heap.size ≤ w'.heap.size
  block : ∀ b, b < w.heap.size → T b = 1000 → T' b = 1000 ∧ w'.heap[b]? = w.heap[b]?
theorem HTurn.refl (T : Nat → Nat) (w : World) : HTurn T T w w := ⟨rfl, rfl, rfl, Nat.le_refl _, fun _ _ h => ⟨h, rfl⟩⟩
theorem HTurn.trans {T T' T'' : Nat → Nat} {a b c : World} (h : HTurn T T' a b) (k : HTurn T' T'' b c) : HTurn T T'' a c :=
  ⟨k.os.trans h.os, k.tape.trans h.tape, k.output.trans h.output, Nat.le_trans h.size k.size, fun i hi ht => by
    obtain ⟨h1, h2⟩ := h.block i hi ht
    obtain ⟨k1, k2⟩ := k.block i (Nat.lt_of_lt_of_le hi h.size) h1
    exact ⟨k1, k2.trans h2⟩⟩
theorem HTurn.of_below {T : Nat → Nat} {w w' : World} (h : Below w.heap.size w w') : HTurn T T w w' := ⟨h.os, h.tape, h.output, h.size, fun b hb ht => ⟨ht, h.block b hb⟩⟩
theorem HTurn.below {T T' : Nat → Nat} {B : Nat} {w w' : World} (h : HTurn T T' w w') (hT : ∀ b, b < B → T b = 1000) (hB : B ≤ w.heap.size) : Below B w w' :=
  ⟨h.os, h.tape, h.output, h.size, fun b hb => (h.block b (by omega) (hT b hb)).2⟩
theorem HTurn.cell {T T' : Nat → Nat} {w w' : World} (h : HTurn T T' w w') {a : Addr} {v : Value} (hc : w.cell? a = some v) (ht : T a.block = 1000) : w'.cell? a = some v :=
  (World.cell?_of_block (w := w) (h.block a.block (World.block_lt_of_cell? _ _ hc) ht).2).trans hc

section
variable {x : HSpot} {T : Nat → Nat} {D : Nat → Int} {R : Nat → Rows} {top par : Int} {L : List (Int × Int)} {w w' : World}
theorem HLies.lh (h : HLies x T D R top par L w) : x.h < w.heap.size := World.block_lt_of_cell? _ _ h.arena
theorem HLies.at (h : HLies x T D R top par L w) : ∃ u, At w x.p x.d x.n D u := by
  obtain ⟨u, hu⟩ := (h.rings 0 (Nat.zero_le _)).at
  obtain ⟨e1, e2, e3⟩ := h.sp 0 (Nat.zero_le _)
  rw [e1, e2, e3] at hu
  exact ⟨u, hu⟩

/-- It lies on where its own blocks stand, but for its arena's words, which lie anew. -/
theorem HLies.anew {D' : Nat → Int} (h : HLies x T D R top par L w) (hs : w.heap.size ≤ w'.heap.size) (hk : ∀ b, b < w.heap.size → T b = 0 ∨ T b = 1 ∨ T b = 4 ∨ (5 ≤ T b ∧ T b ≤ 5 + x.k) → w'.heap[b]? = w.heap[b]?) (hA : ∃ u, At w' x.p x.d x.n D' u)
    (hD : ∀ i, i ≤ x.k → ∀ j, Links (R i) j → D' j = D j) : HLies x T D' R top par L w' := by
  obtain ⟨cb, cap, g, ht, hc, hcs, hR⟩ := h.rest
  have o : ∀ (b j : Nat) (v : Value), w.cell? ⟨b, j, none⟩ = some v → (T b = 0 ∨ T b = 1 ∨ T b = 4 ∨ (5 ≤ T b ∧ T b ≤ 5 + x.k)) → w'.cell? ⟨b, j, none⟩ = some v := fun b j v hv hT => (World.cell?_of_block (w := w) (hk b (World.block_lt_of_cell? _ _ hv) hT)).trans hv
  have h0 := Or.inl (b := T x.h = 1 ∨ T x.h = 4 ∨ (5 ≤ T x.h ∧ T x.h ≤ 5 + x.k)) ht.h
  have h1 : T cb = 0 ∨ T cb = 1 ∨ T cb = 4 ∨ (5 ≤ T cb ∧ T cb ≤ 5 + x.k) := Or.inr (Or.inl ht.cb)
  refine ⟨o _ _ _ h.arena h0, o _ _ _ h.large h0, o _ _ _ h.room h0, o _ _ _ h.top h0, o _ _ _ h.lim h0, o _ _ _ h.par h0, fun j => (World.frozen?_of_block (w := w) (hk _ h.lh h0)).trans (h.fz j), fun i hi => ?_, h.sp, h.k1, h.k6,
    cb, cap, g, ht, o _ _ _ hc h0, fun i hi => ⟨o _ _ _ (hcs i hi).1 h1, o _ _ _ (hcs i hi).2 h1⟩, hR.move (hk _ hR.lp (Or.inr (Or.inr (Or.inl ht.rp)))) (hk _ hR.lg (Or.inr (Or.inr (Or.inl ht.g)))) hs⟩
  obtain ⟨e1, e2, e3⟩ := h.sp i hi
  refine (h.rings i hi).anew hs (fun b hb => hk b ((h.rings i hi).under.2.2 b hb) ?_) (by rw [e1, e2, e3]; exact hA) (hD i hi)
  have := ht.s i hi b hb
  exact Or.inr (Or.inr (Or.inr (by omega)))
theorem HLies.later (h : HLies x T D R top par L w) (hb : Below w.heap.size w w') : HLies x T D R top par L w' := by
  obtain ⟨u, hu⟩ := h.at
  exact h.anew hb.size (fun b hl _ => hb.block b hl) ⟨u, hu.later hb⟩ (fun _ _ _ _ => rfl)
/-- Words are loaded or stored. -/
theorem HLies.words {D' : Nat → Int} {u : Int} (h : HLies x T D R top par L w) (hA : At w' x.p x.d x.n D' u) (hq : Apart x.p x.d w w') (hD : ∀ i, i ≤ x.k → ∀ j, Links (R i) j → D' j = D j) : HLies x T D' R top par L w' ∧ HTurn T T w w' := by
  obtain ⟨cb, cap, g, ht, hc, hcs, hR⟩ := h.rest
  have np : ∀ b, T b ≠ 2 → b ≠ x.p := fun b hb e => hb (by rw [e]; exact ht.p)
  have nd : ∀ b, T b ≠ 3 → b ≠ x.d := fun b hb e => hb (by rw [e]; exact ht.d)
  exact ⟨h.anew hq.size (fun b hl hT => hq.block b hl (np b (by omega)) (nd b (by omega))) ⟨u, hA⟩ hD, hq.os, hq.tape, hq.output, hq.size, fun b hl hT => ⟨hT, hq.block b hl (np b (by omega)) (nd b (by omega))⟩⟩
/-- A ring has been asked. -/
theorem HLies.ring {D' : Nat → Int} {Q : Rows} {i : Nat} (h : HLies x T D R top par L w) (hi : i ≤ x.k) (hR : RingD (x.S i) Q D' w') (ht : Turn (x.S i) w w') (hD : ∀ j, j ≤ x.k → j ≠ i → ∀ m, Links (R j) m → D' m = D m) :
    HLies x T D' (fun j => if j = i then Q else R j) top par L w' ∧ HTurn T T w w' := by
  obtain ⟨cb, cap, g, hT, hc, hcs, hRm⟩ := h.rest
  obtain ⟨e1, e2, e3⟩ := h.sp i hi
  have hTi : T (x.S i).r = 5 + i := hT.s i hi _ (Or.inl rfl)
  have np : ∀ b, T b ≠ 2 → b ≠ x.p := fun b hb e => hb (by rw [e]; exact hT.p)
  have nd : ∀ b, T b ≠ 3 → b ≠ x.d := fun b hb e => hb (by rw [e]; exact hT.d)
  have nr : ∀ b, T b ≠ 5 + i → b ≠ (x.S i).r := fun b hb e => hb (by rw [e]; exact hTi)
  have hk : ∀ b, b < w.heap.size → T b ≠ 2 → T b ≠ 3 → T b ≠ 5 + i → w'.heap[b]? = w.heap[b]? := fun b hl h2 h3 h4 => ht.block b hl (nr b h4) (by rw [e1]; exact np b h2) (by rw [e2]; exact nd b h3)
  have o : ∀ (b j : Nat) (v : Value), w.cell? ⟨b, j, none⟩ = some v → T b < 2 → w'.cell? ⟨b, j, none⟩ = some v := fun b j v hv hb => (World.cell?_of_block (w := w) (hk b (World.block_lt_of_cell? _ _ hv) (by omega) (by omega) (by omega))).trans hv
  have h0 : T x.h < 2 := by rw [hT.h]; omega
  have h1 : T cb < 2 := by rw [hT.cb]; omega
  refine ⟨⟨o _ _ _ h.arena h0, o _ _ _ h.large h0, o _ _ _ h.room h0, o _ _ _ h.top h0, o _ _ _ h.lim h0, o _ _ _ h.par h0, fun j => (World.frozen?_of_block (w := w) (hk x.h h.lh (by omega) (by omega) (by omega))).trans (h.fz j), fun j hj => ?_, h.sp, h.k1, h.k6,
    cb, cap, g, hT, o _ _ _ hc h0, fun i hi => ⟨o _ _ _ (hcs i hi).1 h1, o _ _ _ (hcs i hi).2 h1⟩, hRm.move (hk _ hRm.lp (by rw [hT.rp]; omega) (by rw [hT.rp]; omega) (by rw [hT.rp]; omega)) (hk _ hRm.lg (by rw [hT.g]; omega) (by rw [hT.g]; omega) (by rw [hT.g]; omega)) ht.size⟩,
    ht.os, ht.tape, ht.output, ht.size, fun b hl hb => ⟨hb, hk b hl (by omega) (by omega) (by have := h.k6; omega)⟩⟩
  by_cases e : j = i
  · subst e
    simpa using hR
  · rw [if_neg e]
    obtain ⟨f1, f2, f3⟩ := h.sp j hj
    obtain ⟨u, hu⟩ := hR.at
    rw [e1, e2, e3] at hu
    refine (h.rings j hj).anew ht.size (fun b hb => ?_) ⟨u, by rw [f1, f2, f3]; exact hu⟩ (hD j hj e)
    have := hT.s j hj b hb
    exact hk b ((h.rings j hj).under.2.2 b hb) (by omega) (by omega) (by omega)
end

end Go.Proofs.Ytbjlpmjalidfkaa
