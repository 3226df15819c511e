import Derived.Laws.NewBlocks
import Derived.Deep.AppendLies
import Derived.Deep.RegionLaw
import Derived.Test.YthliahaopelooaaChecked
import Derived.Laws.Bits128
import Derived.WalkKit
import Derived.Lib.Hide
import Derived.Test.YthliahaopelooaaMg2
import Derived.Test.YthliahaopelooaaMg3
/- New room; its list, and how many are free. -/
namespace Go.Proofs.Ythliahaopelooaa.Ex
open Go.RowKit Go.Sort
theorem isBound_is (n : Int) (b : Bool) (h : decide (0 ≤ n ∧ n ≤ 65536) = b) (w : World) :
    Calls Try.prog 85 #[.int .i64 n] w fun e w' => e = .returned (.bool b) ∧ w' = w := by
  subst h
  exact isBound_any n w
/-- Room without places, as it lies. -/
structure None (w : World) (p : Nat) (F : Int) : Prop where
  first : w.cell? ⟨p, 0, none⟩ = some (.int .i64 F)
  places : w.cell? ⟨p, 1, none⟩ = some (.int .i64 0)
  free : w.cell? ⟨p, 2, none⟩ = some (.slice none 0 0)
  lp : p < w.heap.size
set_option maxHeartbeats 1000000 in
set_option maxRecDepth 100000 in
theorem new_none (F : Int) (w : World) (h0 : 0 ≤ F ∧ F ≤ 65536) :
    Calls Try.prog 61 #[.int .i64 F, .int .i64 0] w fun e w' => ∃ p, e = .returned (.tuple #[.pointer (some ⟨p, 0, none⟩), .int .i64 0]) ∧ None w' p F ∧ Below w.heap.size w w' ∧ w.heap.size ≤ p := by
  have H0 := Lib.hid (isBound_is F true (by simpa using h0) w)
  have H := Lib.hid (isBound_is 0 true (by simp) w)
  have hE : None (w.alloc (.cells #[.int .i64 F, .int .i64 0, .slice none 0 0] 146)) w.heap.size F := ⟨by simp [go_sem], by simp [go_sem], by simp [go_sem], by simp⟩
  have hB := (Below.refl w.heap.size w).alloc (Nat.le_refl _) (.cells #[.int .i64 F, .int .i64 0, .slice none 0 0] 146)
  have HE := Lib.hid hE
  have HB := Lib.hid hB
  clear h0 hE hB
  go_enter Try.func61, Try.ntmps61
  go_wp2_with fail
  refine H0.out.mono ?_
  rintro e w' ⟨rfl, rfl⟩
  go_wp2_with fail
  refine H.out.mono ?_
  rintro e w' ⟨rfl, rfl⟩
  go_wp2_with fail
  go_ret2
  exact ⟨_, rfl, HE.out, HB.out, Nat.le_refl _⟩
set_option maxHeartbeats 1000000 in
set_option maxRecDepth 100000 in
theorem new_some (F N : Int) (w : World) (h0 : 0 ≤ F ∧ F ≤ 65536) (h1 : 1 ≤ N ∧ N ≤ 65536) :
    Calls Try.prog 61 #[.int .i64 F, .int .i64 N] w fun e w' => ∃ p g, e = .returned (.tuple #[.pointer (some ⟨p, 0, none⟩), .int .i64 0]) ∧ At w' p g 1 F N [(F, N)] ∧ Below w.heap.size w w' ∧ w.heap.size ≤ p ∧ w.heap.size ≤ g := by
  have H0 := Lib.hid (isBound_is F true (by simpa using h0) w)
  have H := Lib.hid (isBound_is N true (by simp; omega) w)
  obtain ⟨W, hW⟩ : ∃ W, W = (w.alloc (.cells #[.int .i64 F, .int .i64 N, .slice (some ⟨w.heap.size + 1, 0, none⟩) 1 1] 146)).alloc (.cells #[.int .i64 F, .int .i64 N] 143) := ⟨_, rfl⟩
  have hO : Own 143 W (w.heap.size + 1) 1 [(F, N)] := by
    have h := World.ownsRow_lit (base := 0) (size := 2) (e := 143) (w.alloc (.cells #[.int .i64 F, .int .i64 N, .slice (some ⟨w.heap.size + 1, 0, none⟩) 1 1] 146)) #[.int .i64 F, .int .i64 N] 1 (Nat.zero_le _) (by unfold maxLen; omega) rfl
    rw [← hW] at h
    simpa [Own, flat] using h
  have hE : At W w.heap.size (w.heap.size + 1) 1 F N [(F, N)] := by
    refine ⟨?_, ?_, ?_, ?_, hO, by omega, ?_⟩
    · rw [hW]; simp [go_sem]
    · rw [hW]; simp [go_sem]
    · rw [hW]; simp [go_sem]
    · rw [hW]; simp [go_sem]
    · rw [hW]; simp; omega
  have hB : Below w.heap.size w W := by
    rw [hW]
    exact ((Below.refl w.heap.size w).alloc (Nat.le_refl _) _).alloc (by simp) _
  have HE := Lib.hid hE
  have HB := Lib.hid hB
  clear h0 hE hB hO
  subst hW
  go_enter Try.func61, Try.ntmps61
  go_wp2_with fail
  refine H0.out.mono ?_
  rintro e w' ⟨rfl, rfl⟩
  go_wp2_with fail
  refine H.out.mono ?_
  rintro e w' ⟨rfl, rfl⟩
  go_wp2_with fail
  go_ret2
  exact ⟨_, _, rfl, HE.out, HB.out, Nat.le_refl _, by omega⟩
end Go.Proofs.Ythliahaopelooaa.Ex
/- Room, with places or without: what each call answers, and what it leaves. -/
namespace Go.Proofs.Ythliahaopelooaa.Ex
open Go.RowKit Go.Sort
section
variable {w w' : World} {p : Nat} {F : Int}
theorem None.move (h : None w p F) (hp : w'.heap[p]? = w.heap[p]?) (hs : w.heap.size ≤ w'.heap.size) : None w' p F :=
  ⟨(World.cell?_of_block (w := w) hp).trans h.first, (World.cell?_of_block (w := w) hp).trans h.places, (World.cell?_of_block (w := w) hp).trans h.free, Nat.lt_of_lt_of_le h.lp hs⟩
theorem None.later (h : None w p F) (hb : Below w.heap.size w w') : None w' p F := h.move (hb.block p h.lp) hb.size
end
set_option maxHeartbeats 1000000 in
set_option maxRecDepth 100000 in
theorem index_none (fv : Value) (w : World) :
    Calls Try.prog 92 #[.slice none 0 0, fv] w fun e w' => e = .returned (.int .i64 (-1)) ∧ w' = w := by
  go_enter Try.func92, Try.ntmps92
  go_wp2_with fail
  go_loopw [5, 8] (fun _ s8 wr => s8 = .int .i64 0 ∧ wr = w) (fun _ _ _ => 0)
  case atStart => exact ⟨rfl, rfl⟩
  case round =>
    obtain ⟨rfl, rfl⟩ := hrel
    go_wp2_with fail
    go_ret
    exact ⟨rfl, rfl⟩
set_option maxHeartbeats 1000000 in
set_option maxRecDepth 100000 in
theorem take_none (p : Nat) (F n : Int) (w : World) (hA : None w p F) (hn : 1 ≤ n) :
    Calls Try.prog 76 #[.pointer (some ⟨p, 0, none⟩), .int .i64 n] w fun e w' => e = .returned (.tuple #[.int .i64 0, .int .i64 2]) ∧ Below w.heap.size w w' := by
  have hb := (Below.refl w.heap.size w).alloc (Nat.le_refl _) (.cells #[.int .i64 n] 3)
  have lp := hA.lp
  have hf := hA.free
  have HB := Lib.hid hb
  clear hA hb
  go_enter Try.func76, Try.ntmps76
  go_wp2_with fail
  refine (index_none _ _).mono ?_
  rintro e w2 ⟨rfl, rfl⟩
  go_wp2_with fail
  go_ret2
  exact ⟨rfl, HB.out⟩
/-- ROOM: its runs, and where they lie. -/
structure Room (w : World) (p g : Nat) (F N : Int) (L : List (Int × Int)) : Prop where
  good : Good F (F + N) L
  f0 : 0 ≤ F
  f1 : F ≤ 65536
  n0 : 0 ≤ N
  n1 : N ≤ 65536
  lies : (∃ cap, At w p g cap F N L) ∨ (N = 0 ∧ L = [] ∧ g = p ∧ None w p F)
section
variable {w w' : World} {p g : Nat} {F N : Int} {L : List (Int × Int)}
theorem Room.lp (h : Room w p g F N L) : p < w.heap.size := by
  rcases h.lies with ⟨cap, h⟩ | ⟨_, _, _, h⟩
  · exact h.lp
  · exact h.lp
theorem Room.lg (h : Room w p g F N L) : g < w.heap.size := by
  rcases h.lies with ⟨cap, h⟩ | ⟨_, _, rfl, h⟩
  · exact h.lg
  · exact h.lp
theorem Room.move (h : Room w p g F N L) (hp : w'.heap[p]? = w.heap[p]?) (hd : w'.heap[g]? = w.heap[g]?) (hs : w.heap.size ≤ w'.heap.size) : Room w' p g F N L :=
  ⟨h.good, h.f0, h.f1, h.n0, h.n1, by
    rcases h.lies with ⟨cap, h⟩ | ⟨h1, h2, h3, h⟩
    · exact Or.inl ⟨cap, h.move hp hd hs⟩
    · exact Or.inr ⟨h1, h2, h3, h.move hp hs⟩⟩
theorem Room.later (h : Room w p g F N L) (hb : Below w.heap.size w w') : Room w' p g F N L := h.move (hb.block p h.lp) (hb.block g h.lg) hb.size
theorem Room.small (h : Room w p g F N L) : L.length ≤ 65536 := by
  have := good_length h.good (by have := h.n0; omega)
  have := h.n1
  omega
end
def whole (F N : Int) : List (Int × Int) := if N = 0 then [] else [(F, N)]
theorem room_new (F N : Int) (w : World) (h0 : 0 ≤ F ∧ F ≤ 65536) (h1 : 0 ≤ N ∧ N ≤ 65536) :
    Calls Try.prog 61 #[.int .i64 F, .int .i64 N] w fun e w' => ∃ p g, e = .returned (.tuple #[.pointer (some ⟨p, 0, none⟩), .int .i64 0]) ∧ Room w' p g F N (whole F N) ∧ Below w.heap.size w w' ∧ w.heap.size ≤ p ∧ w.heap.size ≤ g := by
  unfold whole
  by_cases e : N = 0
  · subst e
    rw [if_pos rfl]
    refine (new_none F w h0).mono ?_
    rintro e w' ⟨p, rfl, hn, hb, hp⟩
    exact ⟨p, p, rfl, ⟨trivial, h0.1, h0.2, Int.le_refl _, by omega, Or.inr ⟨rfl, rfl, rfl, hn⟩⟩, hb, hp, hp⟩
  · rw [if_neg e]
    refine (new_some F N w h0 (by omega)).mono ?_
    rintro e w' ⟨p, g, rfl, hn, hb, hp, hg⟩
    exact ⟨p, g, rfl, ⟨good_start (by omega), h0.1, h0.2, h1.1, h1.2, Or.inl ⟨1, hn⟩⟩, hb, hp, hg⟩
theorem room_take (p g : Nat) (F N n : Int) (L : List (Int × Int)) (w : World) (hR : Room w p g F N L) :
    Calls Try.prog 76 #[.pointer (some ⟨p, 0, none⟩), .int .i64 n] w fun e w' => e = .returned (.tuple #[.int .i64 (tAt n L), .int .i64 (tErr n L)]) ∧
      ∃ M, Room w' p g F N M ∧ Took F (F + N) n L M ∧ Apart p g w w' := by
  by_cases hn : n < 1
  · obtain ⟨e1, e2⟩ := tErr_le (L := L) hn
    refine (take_range ⟨p, 0, none⟩ n w hn).mono ?_
    rintro e w' ⟨rfl, hb⟩
    exact ⟨by rw [e1, e2], L, hR.later hb, took_same hR.good (by omega), Apart.of_below hb⟩
  · rcases spot_cases n L with h | ⟨A, a, k, B, rfl, hA, hk⟩
    · have e1 : tErr n L = 2 := by rw [tErr, if_neg hn, spot_none h]; rfl
      have e2 : tAt n L = 0 := by rw [tAt, if_neg hn, spot_none h]; rfl
      have hc : Calls Try.prog 76 #[.pointer (some ⟨p, 0, none⟩), .int .i64 n] w fun e w' => e = .returned (.tuple #[.int .i64 0, .int .i64 2]) ∧ Below w.heap.size w w' := by
        rcases hR.lies with ⟨cap, hA⟩ | ⟨_, _, _, hA⟩
        · exact take_full p g cap F N n L w hA (by omega) h
        · exact take_none p F n w hA (by omega)
      refine hc.mono ?_
      rintro e w' ⟨rfl, hb⟩
      exact ⟨by rw [e1, e2], L, hR.later hb, took_same hR.good (by omega), Apart.of_below hb⟩
    · obtain ⟨e1, e2, e3⟩ := took_cut hR.good (by omega) hA hk
      obtain ⟨cap, hAt⟩ : ∃ cap, At w p g cap F N (A ++ (a, k) :: B) := by
        rcases hR.lies with h | ⟨_, h, _⟩
        · exact h
        · simp at h
      have hx := good_mem hR.good (x := (a, k)) (by simp)
      have b0 := hR.f0
      have b1 := hR.f1
      have b2 := hR.n1
      simp only at hx
      refine (take_hit p g cap F N n A B a k w hAt (by omega) hA hk (by have := hR.small; omega) (by omega) (by omega)).mono ?_
      rintro e w' ⟨rfl, h1, h2⟩
      exact ⟨by rw [e1, e2], _, ⟨e3.1, hR.f0, hR.f1, hR.n0, hR.n1, Or.inl ⟨cap, h1⟩⟩, e3, h2⟩
end Go.Proofs.Ythliahaopelooaa.Ex
/- A heap as it lies: its struct, its arena, its classes' rings and the large ones', its room; whose each block is. -/
namespace Go.Proofs.Ythliahaopelooaa
open Go.RowKit
/-- A ring's own blocks. -/
def Spot.Own (s : Spot) (b : Nat) : Prop := b = s.r ∨ b = s.a1 ∨ b = s.n1 ∨ b = s.a2 ∨ b = s.n2
theorem RingD.under {s : Spot} {R : Rows} {D : Nat → Int} {w : World} (h : RingD s R D w) : s.p < w.heap.size ∧ s.d < w.heap.size ∧ ∀ b, s.Own b → b < w.heap.size := by
  obtain ⟨C, F, h, -⟩ := h
  refine ⟨h.lp, h.ld, fun b hb => ?_⟩
  rcases hb with rfl | rfl | rfl | rfl | rfl
  · exact h.lr
  · exact World.block_lt_of_cell? _ _ h.ba1
  · exact World.block_lt_of_cell? _ _ h.bn1
  · exact World.block_lt_of_cell? _ _ h.ba2
  · exact World.block_lt_of_cell? _ _ h.bn2
/-- A new ring; all of its blocks are new. -/
def NewlyD (p d n : Nat) (D : Nat → Int) (w : World) (e : Ending) (w' : World) : Prop :=
  ∃ s : Spot, e = .returned (.pointer (some ⟨s.r, 0, none⟩)) ∧ s.p = p ∧ s.d = d ∧ s.n = n ∧ RingD s none4 D w' ∧ Below w.heap.size w w' ∧ ∀ b, s.Own b → w.heap.size ≤ b
set_option maxHeartbeats 4000000 in
set_option maxRecDepth 100000 in
theorem ringd_new (p d n : Nat) (D : Nat → Int) (u : Int) (w : World) (hA : At w p d n D u) (hn : n ≤ 65536) :
    Calls Try.prog 62 #[.pointer (some ⟨p, 0, none⟩)] w (NewlyD p d n D w) := by
  have HA := Lib.hid hA
  clear hA
  go_enter Try.func62, Try.ntmps62
  go_wp2_with fail
  refine (linkAt_any p 1 w).mono ?_
  rintro e w2 ⟨a1, n1, rfl, x1, x2, x3, x4, hb2⟩
  have H2 := Lib.hid (And.intro x1 (And.intro x2 (And.intro x3 (And.intro x4 hb2))))
  clear x1 x2 x3 x4 hb2
  go_wp2_with fail
  refine (linkAt_any p 2 w2).mono ?_
  rintro e w3 ⟨a2, n2, rfl, x1, x2, x3, x4, hb3⟩
  have H3 := Lib.hid (And.intro x1 (And.intro x2 (And.intro x3 (And.intro x4 hb3))))
  clear x1 x2 x3 x4 hb3
  go_wp2_with fail
  obtain ⟨x1, x2, x3, x4, hb2⟩ := H2.out
  obtain ⟨y1, y2, y3, y4, hb3⟩ := H3.out
  have lp := HA.out.lp
  have ld := HA.out.ld
  have hs2 := hb2.size
  have hs3 := hb3.size
  have hb := onB' hb2 hb3
  refine bodyPost_ret (v := .pointer (some ⟨w3.heap.size, 0, none⟩)) (by simp [results, Try.results62, go_sem]) rfl ?_
  refine ⟨⟨w3.heap.size, p, d, n, a1, n1, a2, n2⟩, rfl, rfl, rfl, rfl, ⟨fun _ => 0, fun _ => 0, ?_, ?_⟩, hb.alloc (by omega) _, fun b hb => by unfold Spot.Own at hb; simp only at hb; omega⟩
  · have hx := (Below.refl w3.heap.size w3).alloc (Nat.le_refl _) (.cells #[.pointer (some ⟨p, 0, none⟩), .func (.func 97) #[] #[.pointer (some ⟨a1, 0, none⟩), .pointer (some ⟨n1, 0, none⟩)], .func (.func 98) #[] #[.pointer (some ⟨a1, 0, none⟩), .pointer (some ⟨n1, 0, none⟩)], .func (.func 97) #[] #[.pointer (some ⟨a2, 0, none⟩), .pointer (some ⟨n2, 0, none⟩)], .func (.func 98) #[] #[.pointer (some ⟨a2, 0, none⟩), .pointer (some ⟨n2, 0, none⟩)], .int .i64 0, .int .i64 0, .int .i64 0, .int .i64 0, .int .i64 0, .int .i64 0, .int .i64 0, .int .i64 0] 129)
    have l1 := World.block_lt_of_cell? _ _ (later' hb3 x1)
    have l2 := World.block_lt_of_cell? _ _ (later' hb3 x2)
    have l3 := World.block_lt_of_cell? _ _ y1
    have l4 := World.block_lt_of_cell? _ _ y2
    simp only at l1 l2 l3 l4
    refine ⟨by simp [go_sem], by simp [go_sem], by simp [go_sem], by simp [go_sem], by simp [go_sem], ?_, ?_, fun j => by simp [go_sem], later' hx (later' hb3 x1), later' hx (later' hb3 x2), later' hx y1, later' hx y2, ⟨u, (HA.out.later hb).later hx⟩, hn, by simp; omega, by simp; omega, ?_, ?_, ?_, ?_⟩
    · intro k hk
      obtain rfl | rfl | rfl | rfl : k = 0 ∨ k = 1 ∨ k = 2 ∨ k = 3 := by omega
      all_goals simp [go_sem]
    · intro k hk
      obtain rfl | rfl | rfl | rfl : k = 0 ∨ k = 1 ∨ k = 2 ∨ k = 3 := by omega
      all_goals simp [go_sem]
    all_goals exact ⟨by simp only; omega, by simp only; omega, by simp only; omega⟩
  · exact ⟨rfl, rfl, rfl, rfl, (by simp [none4]), (by simp [none4]), (by simp [none4]), (by simp [none4]), trivial, ⟨by simp [none4, Rows.all], by simp [none4, Rows.all]⟩, by simp [none4, Rows.all]⟩
/-- Where a heap lies: its struct; its arena, the arena's words, how many; how many classes; where the room begins; the room; the classes' sizes; the rings, the large ones' last. -/
structure HSpot where
  h : Nat
  p : Nat
  d : Nat
  n : Nat
  k : Nat
  lim : Nat
  rp : Nat
  sz : Nat → Int
  S : Nat → Spot
/-- Whose each block is: 1000: nobody's of the heap. -/
structure Tags (x : HSpot) (T : Nat → Nat) (cb g : Nat) : Prop where
  h : T x.h = 0
  cb : T cb = 1
  p : T x.p = 2
  d : T x.d = 3
  rp : T x.rp = 4
  g : T g = 4
  s : ∀ i, i ≤ x.k → ∀ b, (x.S i).Own b → T b = 5 + i
/-- A HEAP AS IT LIES. -/
structure HLies (x : HSpot) (T : Nat → Nat) (D : Nat → Int) (R : Nat → Rows) (top par : Int) (L : List (Int × Int)) (w : World) : Prop where
  arena : w.cell? ⟨x.h, 0, none⟩ = some (.pointer (some ⟨x.p, 0, none⟩))
  large : w.cell? ⟨x.h, 2, none⟩ = some (.pointer (some ⟨(x.S x.k).r, 0, none⟩))
  room : w.cell? ⟨x.h, 3, none⟩ = some (.pointer (some ⟨x.rp, 0, none⟩))
  top : w.cell? ⟨x.h, 4, none⟩ = some (.int .i64 top)
  lim : w.cell? ⟨x.h, 5, none⟩ = some (.int .i64 x.lim)
  par : w.cell? ⟨x.h, 6, none⟩ = some (.int .i64 par)
  fz : ∀ j, w.frozen? ⟨x.h, j, none⟩ = false
  rings : ∀ i, i ≤ x.k → RingD (x.S i) (R i) D w
  sp : ∀ i, i ≤ x.k → (x.S i).p = x.p ∧ (x.S i).d = x.d ∧ (x.S i).n = x.n
  k1 : 1 ≤ x.k
  k6 : x.k ≤ 6
  rest : ∃ cb cap g, Tags x T cb g ∧ w.cell? ⟨x.h, 1, none⟩ = some (.slice (some ⟨cb, 0, none⟩) x.k cap) ∧
    (∀ i, i < x.k → w.cell? ⟨cb, i * 2, none⟩ = some (.int .i64 (x.sz i)) ∧ w.cell? ⟨cb, i * 2 + 1, none⟩ = some (.pointer (some ⟨(x.S i).r, 0, none⟩))) ∧
    Ex.Room w x.rp g x.lim (x.n - x.lim : Int) L
/-- What a call of a heap's leaves as it was: all that is nobody's of the heap. -/
structure HTurn (T T' : Nat → Nat) (w w' : World) : Prop where
  os : w'.os = w.os
  tape : w'.tape = w.tape
  output : w'.output = w.output
  size : w.heap.size ≤ w'.heap.size
  block : ∀ b, b < w.heap.size → T b = 1000 → T' b = 1000 ∧ w'.heap[b]? = w.heap[b]?
theorem HTurn.refl (T : Nat → Nat) (w : World) : HTurn T T w w := ⟨rfl, rfl, rfl, Nat.le_refl _, fun _ _ h => ⟨h, rfl⟩⟩
theorem HTurn.trans {T T' T'' : Nat → Nat} {a b c : World} (h : HTurn T T' a b) (k : HTurn T' T'' b c) : HTurn T T'' a c :=
  ⟨k.os.trans h.os, k.tape.trans h.tape, k.output.trans h.output, Nat.le_trans h.size k.size, fun i hi ht => by
    obtain ⟨h1, h2⟩ := h.block i hi ht
    obtain ⟨k1, k2⟩ := k.block i (Nat.lt_of_lt_of_le hi h.size) h1
    exact ⟨k1, k2.trans h2⟩⟩
theorem HTurn.of_below {T : Nat → Nat} {w w' : World} (h : Below w.heap.size w w') : HTurn T T w w' := ⟨h.os, h.tape, h.output, h.size, fun b hb ht => ⟨ht, h.block b hb⟩⟩
theorem HTurn.below {T T' : Nat → Nat} {B : Nat} {w w' : World} (h : HTurn T T' w w') (hT : ∀ b, b < B → T b = 1000) (hB : B ≤ w.heap.size) : Below B w w' :=
  ⟨h.os, h.tape, h.output, h.size, fun b hb => (h.block b (by omega) (hT b hb)).2⟩
theorem HTurn.cell {T T' : Nat → Nat} {w w' : World} (h : HTurn T T' w w') {a : Addr} {v : Value} (hc : w.cell? a = some v) (ht : T a.block = 1000) : w'.cell? a = some v :=
  (World.cell?_of_block (w := w) (h.block a.block (World.block_lt_of_cell? _ _ hc) ht).2).trans hc
section
variable {x : HSpot} {T : Nat → Nat} {D : Nat → Int} {R : Nat → Rows} {top par : Int} {L : List (Int × Int)} {w w' : World}
theorem HLies.lh (h : HLies x T D R top par L w) : x.h < w.heap.size := World.block_lt_of_cell? _ _ h.arena
theorem HLies.at (h : HLies x T D R top par L w) : ∃ u, At w x.p x.d x.n D u := by
  obtain ⟨u, hu⟩ := (h.rings 0 (Nat.zero_le _)).at
  obtain ⟨e1, e2, e3⟩ := h.sp 0 (Nat.zero_le _)
  rw [e1, e2, e3] at hu
  exact ⟨u, hu⟩
/-- It lies on where its own blocks stand, but for its arena's words, which lie anew. -/
theorem HLies.anew {D' : Nat → Int} (h : HLies x T D R top par L w) (hs : w.heap.size ≤ w'.heap.size) (hk : ∀ b, b < w.heap.size → T b = 0 ∨ T b = 1 ∨ T b = 4 ∨ (5 ≤ T b ∧ T b ≤ 5 + x.k) → w'.heap[b]? = w.heap[b]?) (hA : ∃ u, At w' x.p x.d x.n D' u)
    (hD : ∀ i, i ≤ x.k → ∀ j, Links (R i) j → D' j = D j) : HLies x T D' R top par L w' := by
  obtain ⟨cb, cap, g, ht, hc, hcs, hR⟩ := h.rest
  have o : ∀ (b j : Nat) (v : Value), w.cell? ⟨b, j, none⟩ = some v → (T b = 0 ∨ T b = 1 ∨ T b = 4 ∨ (5 ≤ T b ∧ T b ≤ 5 + x.k)) → w'.cell? ⟨b, j, none⟩ = some v := fun b j v hv hT => (World.cell?_of_block (w := w) (hk b (World.block_lt_of_cell? _ _ hv) hT)).trans hv
  have h0 := Or.inl (b := T x.h = 1 ∨ T x.h = 4 ∨ (5 ≤ T x.h ∧ T x.h ≤ 5 + x.k)) ht.h
  have h1 : T cb = 0 ∨ T cb = 1 ∨ T cb = 4 ∨ (5 ≤ T cb ∧ T cb ≤ 5 + x.k) := Or.inr (Or.inl ht.cb)
  refine ⟨o _ _ _ h.arena h0, o _ _ _ h.large h0, o _ _ _ h.room h0, o _ _ _ h.top h0, o _ _ _ h.lim h0, o _ _ _ h.par h0, fun j => (World.frozen?_of_block (w := w) (hk _ h.lh h0)).trans (h.fz j), fun i hi => ?_, h.sp, h.k1, h.k6,
    cb, cap, g, ht, o _ _ _ hc h0, fun i hi => ⟨o _ _ _ (hcs i hi).1 h1, o _ _ _ (hcs i hi).2 h1⟩, hR.move (hk _ hR.lp (Or.inr (Or.inr (Or.inl ht.rp)))) (hk _ hR.lg (Or.inr (Or.inr (Or.inl ht.g)))) hs⟩
  obtain ⟨e1, e2, e3⟩ := h.sp i hi
  refine (h.rings i hi).anew hs (fun b hb => hk b ((h.rings i hi).under.2.2 b hb) ?_) (by rw [e1, e2, e3]; exact hA) (hD i hi)
  have := ht.s i hi b hb
  exact Or.inr (Or.inr (Or.inr (by omega)))
theorem HLies.later (h : HLies x T D R top par L w) (hb : Below w.heap.size w w') : HLies x T D R top par L w' := by
  obtain ⟨u, hu⟩ := h.at
  exact h.anew hb.size (fun b hl _ => hb.block b hl) ⟨u, hu.later hb⟩ (fun _ _ _ _ => rfl)
/-- Words are loaded or stored. -/
theorem HLies.words {D' : Nat → Int} {u : Int} (h : HLies x T D R top par L w) (hA : At w' x.p x.d x.n D' u) (hq : Apart x.p x.d w w') (hD : ∀ i, i ≤ x.k → ∀ j, Links (R i) j → D' j = D j) : HLies x T D' R top par L w' ∧ HTurn T T w w' := by
  obtain ⟨cb, cap, g, ht, hc, hcs, hR⟩ := h.rest
  have np : ∀ b, T b ≠ 2 → b ≠ x.p := fun b hb e => hb (by rw [e]; exact ht.p)
  have nd : ∀ b, T b ≠ 3 → b ≠ x.d := fun b hb e => hb (by rw [e]; exact ht.d)
  exact ⟨h.anew hq.size (fun b hl hT => hq.block b hl (np b (by omega)) (nd b (by omega))) ⟨u, hA⟩ hD, hq.os, hq.tape, hq.output, hq.size, fun b hl hT => ⟨hT, hq.block b hl (np b (by omega)) (nd b (by omega))⟩⟩
/-- A ring has been asked. -/
theorem HLies.ring {D' : Nat → Int} {Q : Rows} {i : Nat} (h : HLies x T D R top par L w) (hi : i ≤ x.k) (hR : RingD (x.S i) Q D' w') (ht : Turn (x.S i) w w') (hD : ∀ j, j ≤ x.k → j ≠ i → ∀ m, Links (R j) m → D' m = D m) :
    HLies x T D' (fun j => if j = i then Q else R j) top par L w' ∧ HTurn T T w w' := by
  obtain ⟨cb, cap, g, hT, hc, hcs, hRm⟩ := h.rest
  obtain ⟨e1, e2, e3⟩ := h.sp i hi
  have hTi : T (x.S i).r = 5 + i := hT.s i hi _ (Or.inl rfl)
  have np : ∀ b, T b ≠ 2 → b ≠ x.p := fun b hb e => hb (by rw [e]; exact hT.p)
  have nd : ∀ b, T b ≠ 3 → b ≠ x.d := fun b hb e => hb (by rw [e]; exact hT.d)
  have nr : ∀ b, T b ≠ 5 + i → b ≠ (x.S i).r := fun b hb e => hb (by rw [e]; exact hTi)
  have hk : ∀ b, b < w.heap.size → T b ≠ 2 → T b ≠ 3 → T b ≠ 5 + i → w'.heap[b]? = w.heap[b]? := fun b hl h2 h3 h4 => ht.block b hl (nr b h4) (by rw [e1]; exact np b h2) (by rw [e2]; exact nd b h3)
  have o : ∀ (b j : Nat) (v : Value), w.cell? ⟨b, j, none⟩ = some v → T b < 2 → w'.cell? ⟨b, j, none⟩ = some v := fun b j v hv hb => (World.cell?_of_block (w := w) (hk b (World.block_lt_of_cell? _ _ hv) (by omega) (by omega) (by omega))).trans hv
  have h0 : T x.h < 2 := by rw [hT.h]; omega
  have h1 : T cb < 2 := by rw [hT.cb]; omega
  refine ⟨⟨o _ _ _ h.arena h0, o _ _ _ h.large h0, o _ _ _ h.room h0, o _ _ _ h.top h0, o _ _ _ h.lim h0, o _ _ _ h.par h0, fun j => (World.frozen?_of_block (w := w) (hk x.h h.lh (by omega) (by omega) (by omega))).trans (h.fz j), fun j hj => ?_, h.sp, h.k1, h.k6,
    cb, cap, g, hT, o _ _ _ hc h0, fun i hi => ⟨o _ _ _ (hcs i hi).1 h1, o _ _ _ (hcs i hi).2 h1⟩, hRm.move (hk _ hRm.lp (by rw [hT.rp]; omega) (by rw [hT.rp]; omega) (by rw [hT.rp]; omega)) (hk _ hRm.lg (by rw [hT.g]; omega) (by rw [hT.g]; omega) (by rw [hT.g]; omega)) ht.size⟩,
    ht.os, ht.tape, ht.output, ht.size, fun b hl hb => ⟨hb, hk b hl (by omega) (by omega) (by have := h.k6; omega)⟩⟩
  by_cases e : j = i
  · subst e
    simpa using hR
  · rw [if_neg e]
    obtain ⟨f1, f2, f3⟩ := h.sp j hj
    obtain ⟨u, hu⟩ := hR.at
    rw [e1, e2, e3] at hu
    refine (h.rings j hj).anew ht.size (fun b hb => ?_) ⟨u, by rw [f1, f2, f3]; exact hu⟩ (hD j hj e)
    have := hT.s j hj b hb
    exact hk b ((h.rings j hj).under.2.2 b hb) (by omega) (by omega) (by omega)
end
end Go.Proofs.Ythliahaopelooaa
/- A new heap. -/
namespace Go.Proofs.Ythliahaopelooaa
open Go.RowKit
theorem Try.info_class : (Try.prog.info? 120).map (fun i => (i.zero, i.size, i.bytes)) = some (some (.agg #[.int .i64 0, .pointer none]), 2, 16) := by kernel_rfl
theorem step_wanted {P : Program} {ops : Array Oper} {o : Oper} {a : Act} {w : World} {K : Act → World → Prop} {Q : Exit → Act → World → Prop} {E : Prop} (hg : o.guard = none) (h : Oper.wp P o a w K Q) :
    if Region.wanted o (yielded ops a.tmps) = true then Oper.wp P o a w K Q else E := by
  have hw : Region.wanted o (yielded ops a.tmps) = true := by simp [Region.wanted, hg]
  rw [if_pos hw]
  exact h
/-- The classes' cells, the first i of them. -/
def flatC (x : HSpot) : Nat → List Value
  | 0 => []
  | i + 1 => flatC x i ++ [.int .i64 (x.sz i), .pointer (some ⟨(x.S i).r, 0, none⟩)]
theorem flatC_length (x : HSpot) (i : Nat) : (flatC x i).length = i * 2 := by
  induction i with
  | zero => rfl
  | succ i ih => simp only [flatC, List.length_append, ih, List.length_cons, List.length_nil]; omega
theorem flatC_get (x : HSpot) {i j : Nat} (h : j < i) : (flatC x i)[j * 2]? = some (.int .i64 (x.sz j)) ∧ (flatC x i)[j * 2 + 1]? = some (.pointer (some ⟨(x.S j).r, 0, none⟩)) := by
  induction i with
  | zero => omega
  | succ i ih =>
    have hl := flatC_length x i
    by_cases e : j = i
    · subst e
      simp only [flatC]
      rw [List.getElem?_append_right (by omega), List.getElem?_append_right (by omega), hl, Nat.sub_self, Nat.add_sub_cancel_left]
      exact ⟨rfl, rfl⟩
    · obtain ⟨h1, h2⟩ := ih (by omega)
      simp only [flatC]
      rw [List.getElem?_append_left (by omega), List.getElem?_append_left (by omega)]
      exact ⟨h1, h2⟩
theorem flatC_same {x y : HSpot} (hs : x.sz = y.sz) {i : Nat} (h : ∀ j, j < i → x.S j = y.S j) : flatC x i = flatC y i := by
  induction i with
  | zero => rfl
  | succ i ih =>
    simp only [flatC]
    rw [ih fun j hj => h j (by omega), hs, h i (by omega)]
/-- In the midst of New: i classes are there. -/
structure Grown (x : HSpot) (T : Nat → Nat) (i : Nat) (v : Value) (B : Nat) (L : List (Int × Int)) (w : World) : Prop where
  arena : w.cell? ⟨x.h, 0, none⟩ = some (.pointer (some ⟨x.p, 0, none⟩))
  cl : w.cell? ⟨x.h, 1, none⟩ = some v
  large : w.cell? ⟨x.h, 2, none⟩ = some (.pointer (some ⟨(x.S x.k).r, 0, none⟩))
  room : w.cell? ⟨x.h, 3, none⟩ = some (.pointer (some ⟨x.rp, 0, none⟩))
  top : w.cell? ⟨x.h, 4, none⟩ = some (.int .i64 1)
  lim : w.cell? ⟨x.h, 5, none⟩ = some (.int .i64 x.lim)
  par : w.cell? ⟨x.h, 6, none⟩ = some (.int .i64 0)
  fz : ∀ j, w.frozen? ⟨x.h, j, none⟩ = false
  own : w.ownsRow B 120 2 v i (flatC x i)
  rings : ∀ j, j < i ∨ j = x.k → RingD (x.S j) none4 (fun _ => 0) w
  sp : ∀ j, j < i ∨ j = x.k → (x.S j).p = x.p ∧ (x.S j).d = x.d ∧ (x.S j).n = x.n
  th : T x.h = 0
  tc : ∀ b, v.ownBlock = some b → T b = 1
  tp : T x.p = 2
  td : T x.d = 3
  tr : T x.rp = 4
  ts : ∀ j, j < i ∨ j = x.k → ∀ b, (x.S j).Own b → T b = 5 + j
  rm : ∃ g, T g = 4 ∧ Ex.Room w x.rp g x.lim (x.n - x.lim : Int) L
  u : ∃ u, At w x.p x.d x.n (fun _ => 0) u
theorem Grown.done {x : HSpot} {T : Nat → Nat} {v : Value} {B : Nat} {L : List (Int × Int)} {w : World} (h : Grown x T x.k v B L w) (h1 : 1 ≤ x.k) (h6 : x.k ≤ 6) : HLies x T (fun _ => 0) (fun _ => none4) 1 0 L w := by
  obtain ⟨g, hg, hR⟩ := h.rm
  rcases h.own.2 with ⟨_, e⟩ | ⟨cb, cap, cur, rfl, _, hb, _, _, _, ht⟩
  · omega
  · refine ⟨h.arena, h.large, h.room, h.top, h.lim, h.par, h.fz, fun i hi => h.rings i (by omega), fun i hi => h.sp i (by omega), h1, h6, cb, cap, g, ⟨h.th, h.tc cb rfl, h.tp, h.td, h.tr, hg, fun i hi => h.ts i (by omega)⟩, h.cl, fun i hi => ?_, hR⟩
    obtain ⟨g1, g2⟩ := flatC_get x hi
    have hl := flatC_length x x.k
    exact ⟨(World.ownsRow.cellAt h.own (i * 2) (by omega)).trans g1, (World.ownsRow.cellAt h.own (i * 2 + 1) (by omega)).trans g2⟩
theorem Grown.lt {x : HSpot} {T : Nat → Nat} {i : Nat} {v : Value} {B : Nat} {L : List (Int × Int)} {w : World} (h : Grown x T i v B L w) : x.h < w.heap.size ∧ (∀ b, v.ownBlock = some b → b < w.heap.size) := by
  refine ⟨World.block_lt_of_cell? _ _ h.arena, fun b hb => ?_⟩
  rcases h.own.2 with ⟨rfl, _⟩ | ⟨g, cap, cur, rfl, _, hg, _⟩
  · cases hb
  · cases hb
    rcases Nat.lt_or_ge g w.heap.size with h' | h'
    · exact h'
    · rw [Array.getElem?_eq_none h'] at hg; cases hg
theorem Grown.later {x : HSpot} {T : Nat → Nat} {i : Nat} {v : Value} {B : Nat} {L : List (Int × Int)} {w w' : World} (h : Grown x T i v B L w) (hb : Below w.heap.size w w') : Grown x T i v B L w' := by
  obtain ⟨g, hg, hR⟩ := h.rm
  obtain ⟨u, hu⟩ := h.u
  refine ⟨later' hb h.arena, later' hb h.cl, later' hb h.large, later' hb h.room, later' hb h.top, later' hb h.lim, later' hb h.par, fun j => (World.frozen?_of_block (w := w) (hb.block _ h.lt.1)).trans (h.fz j), ?_, fun j hj => (h.rings j hj).later hb, h.sp, h.th, h.tc, h.tp, h.td, h.tr, h.ts, ⟨g, hg, hR.later hb⟩, u, hu.later hb⟩
  refine ⟨h.own.1, ?_⟩
  rcases h.own.2 with h2 | ⟨g, cap, cur, rfl, h1, h2, h3⟩
  · exact Or.inl h2
  · exact Or.inr ⟨g, cap, cur, rfl, h1, (hb.block g (h.lt.2 g rfl)).trans h2, h3⟩
/-- One class more. -/
theorem Grown.step {x : HSpot} {T : Nat → Nat} {i : Nat} {v : Value} {B : Nat} {L : List (Int × Int)} {w W7 w9 : World} {s : Spot} {g9 cap9 : Nat} (h : Grown x T i v B L w) (hik : i < x.k) (hb : Below w.heap.size w W7)
    (hRs : RingD s none4 (fun _ => 0) W7) (hsp : s.p = x.p ∧ s.d = x.d ∧ s.n = x.n) (hown : ∀ b, s.Own b → w.heap.size ≤ b)
    (o1 : w9.ownsRow B 120 2 (.slice (some ⟨g9, 0, none⟩) (i + 1) cap9) (i + 1) (flatC x i ++ [.int .i64 (x.sz i), .pointer (some ⟨s.r, 0, none⟩)])) (o2 : W7.grownBy w9 v.ownBlock) (o3 : v.ownBlock = some g9 ∨ g9 = W7.heap.size) :
    ∃ (x' : HSpot) (T' : Nat → Nat), x'.h = x.h ∧ x'.n = x.n ∧ x'.lim = x.lim ∧ x'.k = x.k ∧ x'.sz = x.sz ∧ x'.p = x.p ∧ Grown x' T' (i + 1) (.slice (some ⟨g9, 0, none⟩) (i + 1) cap9) B L (w9.setCell ⟨x.h, 1, none⟩ (.slice (some ⟨g9, 0, none⟩) (i + 1) cap9)) ∧ (∀ b, b < w.heap.size → T' b = T b) := by
  obtain ⟨lh, lv⟩ := h.lt
  have z7 := hb.size
  have hk : ∀ b, b < w.heap.size → some b ≠ v.ownBlock → w9.heap[b]? = w.heap[b]? := fun b h1 h2 => (o2.block b (by omega) h2).trans (hb.block b h1)
  have nv : ∀ b, T b ≠ 1 → some b ≠ v.ownBlock := fun b hb e => hb (h.tc b e.symm)
  have nh : ∀ b, T b ≠ 0 → b ≠ x.h := fun b hb e => hb (by rw [e]; exact h.th)
  have hS : ∀ b, b ≠ x.h → (w9.setCell ⟨x.h, 1, none⟩ (.slice (some ⟨g9, 0, none⟩) (i + 1) cap9)).heap[b]? = w9.heap[b]? := fun b hb => Below.heap_setCell _ _ _ _ hb
  have sz9 : (w9.setCell ⟨x.h, 1, none⟩ (.slice (some ⟨g9, 0, none⟩) (i + 1) cap9)).heap.size = w9.heap.size := by simp [World.setCell]
  have s9 := o2.size
  have kk : ∀ b, b < w.heap.size → 2 ≤ T b → (w9.setCell ⟨x.h, 1, none⟩ (.slice (some ⟨g9, 0, none⟩) (i + 1) cap9)).heap[b]? = w.heap[b]? := fun b h1 h2 => (hS b (nh b (by omega))).trans (hk b h1 (nv b (by omega)))
  have ch : ∀ (j : Nat) (y : Value), j ≠ 1 → w.cell? ⟨x.h, j, none⟩ = some y → (w9.setCell ⟨x.h, 1, none⟩ (.slice (some ⟨g9, 0, none⟩) (i + 1) cap9)).cell? ⟨x.h, j, none⟩ = some y := fun j y hj hy =>
    (World.cell?_setCell_other _ _ _ _ (fun e => hj (by cases e; rfl))).trans ((World.cell?_of_block (w := w) (hk x.h lh (nv _ (by rw [h.th]; omega)))).trans hy)
  have hg9 : g9 ≠ x.h := by
    rcases o3 with e | e
    · have := h.tc g9 e
      exact nh g9 (by omega)
    · omega
  obtain ⟨u, hu⟩ := h.u
  have lp := hu.lp
  have ld := hu.ld
  have hA : At (w9.setCell ⟨x.h, 1, none⟩ (.slice (some ⟨g9, 0, none⟩) (i + 1) cap9)) x.p x.d x.n (fun _ => 0) u := hu.move (kk _ lp (by rw [h.tp]; omega)) (kk _ ld (by rw [h.td]; omega)) (by rw [sz9]; omega)
  obtain ⟨g, hg, hRm⟩ := h.rm
  have eS : ∀ j, j < i ∨ j = x.k → (if j = i then s else x.S j) = x.S j := fun j hj => if_neg (by omega)
  have eF : flatC { x with S := fun j => if j = i then s else x.S j } i = flatC x i := flatC_same (x := { x with S := fun j => if j = i then s else x.S j }) (y := x) rfl fun j hj => if_neg (by omega)
  refine ⟨{ x with S := fun j => if j = i then s else x.S j }, fun b => if b < w.heap.size then T b else if b < W7.heap.size then 5 + i else 1, rfl, rfl, rfl, rfl, rfl, rfl, ?_, fun b hb => if_pos hb⟩
  refine ⟨ch 0 _ (by omega) h.arena, World.cell?_setCell_same _ _ _ ((World.cell?_of_block (w := w) (hk x.h lh (nv _ (by rw [h.th]; omega)))).trans h.cl), ?_, ch 3 _ (by omega) h.room, ch 4 _ (by omega) h.top, ch 5 _ (by omega) h.lim, ch 6 _ (by omega) h.par,
    fun j => (World.frozen?_setCell _ _ _ _).trans ((World.frozen?_of_block (w := w) (hk x.h lh (nv _ (by rw [h.th]; omega)))).trans (h.fz j)), ?_, ?_, ?_, ?_, ?_, ?_, ?_, ?_, ?_, ?_, u, hA⟩
  · have := ch 2 _ (by omega) h.large
    simpa [eS x.k (Or.inr rfl)] using this
  · have e : flatC { x with S := fun j => if j = i then s else x.S j } (i + 1) = flatC x i ++ [.int .i64 (x.sz i), .pointer (some ⟨s.r, 0, none⟩)] := by
      simp only [flatC, if_true]
      rw [eF]
    rw [e]
    refine ⟨o1.1, ?_⟩
    rcases o1.2 with ⟨h1, _⟩ | ⟨gg, cc, cur, h1, h2, h3, h4⟩
    · cases h1
    · cases h1
      exact Or.inr ⟨g9, cap9, cur, rfl, h2, (hS g9 hg9).trans h3, h4⟩
  · intro j hj
    by_cases e : j = i
    · subst e
      simp only [if_true]
      obtain ⟨e1, e2, e3⟩ := hsp
      refine hRs.anew (by rw [sz9]; omega) (fun b hb => ?_) ⟨u, by rw [e1, e2, e3]; exact hA⟩ (fun _ _ => rfl)
      have hb7 := hRs.under.2.2 b hb
      have hbz := hown b hb
      exact (hS b (by omega)).trans (o2.block b hb7 (fun ee => by have := lv b ee.symm; omega))
    · have hj' : j < i ∨ j = x.k := by
        rcases hj with h1 | h1
        · exact Or.inl (by omega)
        · exact Or.inr h1
      simp only [if_neg e]
      obtain ⟨e1, e2, e3⟩ := h.sp j hj'
      refine (h.rings j hj').anew (by rw [sz9]; omega) (fun b hb => kk b ((h.rings j hj').under.2.2 b hb) (by rw [h.ts j hj' b hb]; omega)) ⟨u, by rw [e1, e2, e3]; exact hA⟩ (fun _ _ => rfl)
  · intro j hj
    by_cases e : j = i
    · subst e
      simpa using hsp
    · simp only [if_neg e]
      exact h.sp j (hj.elim (fun h1 => Or.inl (by omega)) Or.inr)
  · simp [lh, h.th]
  · intro b hb
    cases hb
    rcases o3 with e | e
    · have := lv g9 e
      simp [this, h.tc g9 e]
    · simp only [e]
      rw [if_neg (by omega), if_neg (by omega)]
  · simp [lp, h.tp]
  · simp [ld, h.td]
  · have := hRm.lp
    simp [this, h.tr]
  · intro j hj b hb
    by_cases e : j = i
    · subst e
      simp only [if_true] at hb
      have hb7 := hRs.under.2.2 b hb
      have hbz := hown b hb
      rw [if_neg (by omega), if_pos hb7]
    · have hj' : j < i ∨ j = x.k := by
        rcases hj with h1 | h1
        · exact Or.inl (by omega)
        · exact Or.inr h1
      simp only [if_neg e] at hb
      have := (h.rings j hj').under.2.2 b hb
      simp only [if_pos this]
      exact h.ts j hj' b hb
  · have g1 := hRm.lp
    have g2 := hRm.lg
    exact ⟨g, by simp [g2, hg], hRm.move (kk _ g1 (by rw [h.tr]; omega)) (kk _ g2 (by rw [hg]; omega)) (by rw [sz9]; omega)⟩
/-- What New leaves. -/
def Born (words large : Int) (len : Nat) (v : Nat → Int) (w : World) (e : Ending) (w' : World) : Prop :=
  ∃ (x : HSpot) (T : Nat → Nat), e = .returned (.tuple #[.pointer (some ⟨x.h, 0, none⟩), .int .i64 0]) ∧ (x.n : Int) = words ∧ (x.lim : Int) = words - large ∧ x.k = len ∧ x.sz = v ∧
    HLies x T (fun _ => 0) (fun _ => none4) 1 0 (Ex.whole x.lim (x.n - x.lim : Int)) w' ∧ Below w.heap.size w w' ∧ ∀ b, b < w.heap.size → T b = 1000
set_option maxHeartbeats 16000000 in
set_option maxRecDepth 100000 in
theorem heap_new (words large x2 x3 x4 x5 : Int) (a0 : Option Addr) (len cap : Nat) (v : Nat → Int) (w : World) (hs : Sizes w a0 len v) (hr : RightP words large len v) :
    Calls Try.prog 29 #[.agg #[.int .i64 words, .int .i64 large, .int .i64 x2, .int .i64 x3, .int .i64 x4, .int .i64 x5, .slice a0 len cap]] w (Born words large len v w) := by
  obtain ⟨n, rfl⟩ : ∃ n : Nat, words = n := ⟨words.toNat, by have := hr.w1; omega⟩
  have hb : Below w.heap.size w (w.alloc (.cells #[.int .i64 n, .int .i64 large, .int .i64 x2, .int .i64 x3, .int .i64 x4, .int .i64 x5, .slice a0 len cap] 72)) := (Below.refl _ _).alloc (Nat.le_refl _) _
  have c0 : (w.alloc (.cells #[.int .i64 n, .int .i64 large, .int .i64 x2, .int .i64 x3, .int .i64 x4, .int .i64 x5, .slice a0 len cap] 72)).cell? ⟨w.heap.size, 0, none⟩ = some (.int .i64 n) := by simp [go_sem]
  have c1 : (w.alloc (.cells #[.int .i64 n, .int .i64 large, .int .i64 x2, .int .i64 x3, .int .i64 x4, .int .i64 x5, .slice a0 len cap] 72)).cell? ⟨w.heap.size, 1, none⟩ = some (.int .i64 large) := by simp [go_sem]
  have c6 : (w.alloc (.cells #[.int .i64 n, .int .i64 large, .int .i64 x2, .int .i64 x3, .int .i64 x4, .int .i64 x5, .slice a0 len cap] 72)).cell? ⟨w.heap.size, 6, none⟩ = some (.slice a0 len cap) := by simp [go_sem]
  have HS0 := Lib.hid hs
  have HS := Lib.hid (hs.below hb)
  have HB := Lib.hid hb
  have HR := Lib.hid hr
  have w1 := hr.w1
  have w2 := hr.w2
  have l1 := hr.l1
  have l2 := hr.l2
  have e3 : decide (large < 0) = false := decide_eq_false (by omega)
  have e4 : decide ((n : Int) ≤ large) = false := decide_eq_false (by omega)
  have ew : IntKind.i64.wrap ((n : Int) - large) = (n : Int) - large := by rw [IntKind.wrap_i64]; omega
  clear hs hb hr
  go_enter Try.func29, Try.ntmps29
  go_upto_region 1 with fail
  generalize (w.alloc (.cells #[.int .i64 n, .int .i64 large, .int .i64 x2, .int .i64 x3, .int .i64 x4, .int .i64 x5, .slice a0 len cap] 72)) = W1 at *
  go_wp2_with fail
  refine (rising_in a0 len cap v W1 HS.out HR.out.k1 HR.out.k2 HR.out.rise).mono ?_
  rintro e w' ⟨rfl, rfl⟩
  go_wp2_with fail
  refine (new_in n w1 w2 w').mono ?_
  rintro e W2 ⟨p, d, rfl, hA, hb, q1, q2⟩
  rw [Int.toNat_natCast] at hA
  replace c0 := later' hb c0
  replace c1 := later' hb c1
  replace c6 := later' hb c6
  have HS2 := Lib.hid (HS.out.below hb)
  have HA := Lib.hid hA
  have HBS := Lib.hid (And.intro hb (And.intro q1 q2))
  clear hb hA HS q1 q2
  go_wp2_with fail
  refine (Ex.room_new ((n : Int) - large) large W2 ⟨by omega, by omega⟩ ⟨by omega, by omega⟩).mono ?_
  rintro e W3 ⟨rp, g, rfl, hRm, hb, q1, q2⟩
  replace c6 := later' hb c6
  have HS3 := Lib.hid (HS2.out.below hb)
  have HA3 := Lib.hid (HA.out.later hb)
  have HRm := Lib.hid hRm
  have HBS3 := Lib.hid (And.intro hb (And.intro q1 (And.intro q2 (And.intro hRm.lp hRm.lg))))
  clear hb hRm HS2 q1 q2 c0 c1
  go_wp2_with fail
  refine (ringd_new p d n (fun _ => 0) 0 W3 HA3.out (by omega)).mono ?_
  rintro e W4 ⟨sl, rfl, y1, y2, y3, hRl, hb, q1⟩
  replace c6 := later' hb c6
  have HS4 := Lib.hid (HS3.out.below hb)
  have HA4 := Lib.hid (HA3.out.later hb)
  have HRm4 := Lib.hid (HRm.out.later hb)
  have HRl := Lib.hid (And.intro y1 (And.intro y2 (And.intro y3 (And.intro hRl q1))))
  have HBS4 := Lib.hid hb
  clear hb hRl HS3 q1 y1 y2 y3 HA3 HRm
  go_upto_region 11 with fail
  obtain ⟨m, hm⟩ : ∃ m : Nat, (n : Int) - large = m := ⟨((n : Int) - large).toNat, by omega⟩
  have elg : large = (n : Int) - m := by omega
  rw [hm, elg] at HRm4
  rw [hm] at ew ⊢
  have hb5 : Below W4.heap.size W4 (W4.alloc (.cells #[.pointer (some ⟨p, 0, none⟩), .slice none 0 0, .pointer (some ⟨sl.r, 0, none⟩), .pointer (some ⟨rp, 0, none⟩), .int .i64 1, .int .i64 m, .int .i64 0] 62)) := (Below.refl _ _).alloc (Nat.le_refl _) _
  have HG : Hid (∃ (x : HSpot) (T : Nat → Nat), x.h = W4.heap.size ∧ x.n = n ∧ x.lim = m ∧ x.k = len ∧ x.sz = v ∧ x.p = p ∧ Grown x T 0 (.slice none 0 0) w.heap.size (Ex.whole m ((n : Int) - m)) (W4.alloc (.cells #[.pointer (some ⟨p, 0, none⟩), .slice none 0 0, .pointer (some ⟨sl.r, 0, none⟩), .pointer (some ⟨rp, 0, none⟩), .int .i64 1, .int .i64 m, .int .i64 0] 62)) ∧ ∀ b, b < w.heap.size → T b = 1000) := by
    obtain ⟨y1, y2, y3, hRl, q1⟩ := HRl.out
    obtain ⟨s3, q3, q4, r3p, r3g⟩ := HBS3.out
    obtain ⟨s2, q5, q6⟩ := HBS.out
    have z1 := HB.out.size
    have z2 := s2.size
    have z3 := s3.size
    have z4 := HBS4.out.size
    have ur := hRl.under.2.2
    have up := HA4.out.lp
    have ud := HA4.out.ld
    have une := HA4.out.ne
    have u2p := HA.out.lp
    have u2d := HA.out.ld
    refine ⟨⟨W4.heap.size, p, d, n, len, m, rp, v, fun _ => sl⟩, fun b => if b < w.heap.size then 1000 else if b < W2.heap.size then (if b = p then 2 else if b = d then 3 else 1000) else if b < W3.heap.size then 4 else if b < W4.heap.size then 5 + len else 0, rfl, rfl, rfl, rfl, rfl, rfl, ?_, fun b hb => if_pos hb⟩
    have z5 := hb5.size
    refine ⟨by simp [go_sem], by simp [go_sem], by simp [go_sem], by simp [go_sem], by simp [go_sem], by simp [go_sem], by simp [go_sem], fun j => by simp [go_sem], World.ownsRow_nil _ _ _ _, fun j _ => hRl.later hb5, fun j _ => ⟨y1, y2, y3⟩, ?_, (by intro b hb; cases hb), ?_, ?_, ?_, ?_, ⟨g, ?_, HRm4.out.later hb5⟩, _, HA4.out.later hb5⟩
    · simp only
      rw [if_neg (by omega), if_neg (by omega), if_neg (by omega), if_neg (by omega)]
    · simp only
      rw [if_neg (by omega), if_pos u2p]
      simp
    · simp only
      rw [if_neg (by omega), if_pos u2d, if_neg (Ne.symm une)]
      simp
    · simp only
      rw [if_neg (by omega), if_neg (by omega), if_pos r3p]
    · intro j hj b hb
      simp only at hj hb ⊢
      have h1 := ur b hb
      have h2 := q1 b hb
      obtain rfl : j = len := by omega
      rw [if_neg (by omega), if_neg (by omega), if_neg (by omega), if_pos h1]
    · rw [if_neg (by omega), if_neg (by omega), if_pos r3g]
  have hT := HG.out
  replace c6 := later' hb5 c6
  have HS5 := Lib.hid (HS4.out.below hb5)
  have HB5 := Lib.hid (onB' (onB' (onB' (onB' HB.out HBS.out.1) HBS3.out.1) HBS4.out) hb5)
  generalize (W4.alloc (.cells #[.pointer (some ⟨p, 0, none⟩), .slice none 0 0, .pointer (some ⟨sl.r, 0, none⟩), .pointer (some ⟨rp, 0, none⟩), .int .i64 1, .int .i64 m, .int .i64 0] 62)) = W5 at *
  generalize W4.heap.size = hh at *
  clear HRl HRm4 HA4 HBS HBS3 HBS4 hb5 HA HS4 hT
  obtain ⟨b0, off, rfl, hlb, hcs⟩ := HS0.out HR.out.k1
  have HCS := Lib.hid hcs
  have k2 := HR.out.k2
  clear hcs HS5 HS0
  go_wp2_with fail
  have hn65 : n ≤ 65536 := by omega
  clear e3 e4 ew elg w1 w2 l1 l2 HB
  go_loopw [10, 60] (fun _ s60 wr => ∃ (i : Nat) (x : HSpot) (T : Nat → Nat) (vv : Value), i ≤ len ∧ s60 = .int .i64 i ∧ x.h = hh ∧ x.n = n ∧ x.lim = m ∧ x.k = len ∧ x.sz = v ∧ x.p = p ∧ Grown x T i vv w.heap.size (Ex.whole m ((n : Int) - m)) wr ∧ (∀ b, b < w.heap.size → T b = 1000) ∧ Below w.heap.size w wr) (fun _ s60 _ => len - (intOf s60).toNat)
  case atStart =>
    obtain ⟨x, T, f1, f2, f3, f4, f5, f6, hG, hT⟩ := HG.out
    exact ⟨0, x, T, _, Nat.zero_le _, rfl, f1, f2, f3, f4, f5, f6, hG, hT, HB5.out⟩
  case round =>
    clear HG HB5 c6
    obtain ⟨i, x, T, vv, hi, rfl, f1, f2, f3, f4, f5, f6, hG, hT, hB⟩ := hrel
    have HG := Lib.hid hG
    have HT := Lib.hid hT
    have HB := Lib.hid hB
    clear hG hT hB
    by_cases hlt : i < len
    · have hlt' : (i : Int) < (len : Int) := by omega
      have c := HCS.out i hlt
      replace c := (HB.out.cell (p := ⟨b0, off + i, none⟩) hlb).trans c
      have hdr : Below wr.heap.size wr wr.drew := (Below.refl _ _).drew
      have HGD := Lib.hid (HG.out.later hdr)
      have hcl := HGD.out.cl
      have hfz := HGD.out.fz 1
      rw [f1] at hcl hfz
      obtain ⟨i0, hi0, hz0, hzs, hzb⟩ := info_parts Try.info_class
      have hA := HGD.out.u
      obtain ⟨u, hA⟩ := hA
      rw [f6, f2] at hA
      have HA := Lib.hid hA
      clear hdr hA
      go_wp2_with fail
      have hne : some hh ≠ vv.ownBlock := fun e => by
        have h1 := HG.out.tc _ e.symm
        have h2 := HG.out.th
        rw [f1] at h2
        omega
      have hws := HB.out.size
      have hdz : wr.drew.heap.size = wr.heap.size := rfl
      go_region_law (first
        | (refine step_wanted rfl ?_; go_simp; go_at_call 62; refine (ringd_new p x.d n (fun _ => 0) u wr.drew HA.out (by omega)).mono ?_; rintro e W6 ⟨s, rfl, y1, y2, y3, hRs, hb6, q1⟩; have hb7 : Below W6.heap.size W6 (W6.alloc (.cells #[.int .i64 (v i), .pointer (some ⟨s.r, 0, none⟩)] 120)) := (Below.refl _ _).alloc (Nat.le_refl _) _; have HG7 := Lib.hid ((HGD.out.later hb6).later hb7); have hcl6 := later' hb6 hcl; have hcl7 := later' hb7 hcl6; have hz6 := hb6.size; have hfz7 := HG7.out.fz 1; rw [f1] at hfz7)
        | (refine step_append_lies _ rfl _ _ 58 rfl w.heap.size 120 i0 (.agg #[.int .i64 0, .pointer none]) 2 16 Try.underlying58 hi0 hz0 hzs hzb rfl (by decide) vv i (flatC x i) rfl HG7.out.own ⟨W6.heap.size, 0, none⟩ 1 1 [.int .i64 (v i), .pointer (some ⟨s.r, 0, none⟩)] rfl rfl (World.news_of_block (heap_alloc_new _ _)) (by intro u hu; simp at hu; rcases hu with rfl | rfl <;> rfl) (by decide) (by unfold maxLen; omega) (by omega) (by have := hb7.size; omega) _ rfl ?_; intro g9 cap9 w9 o1 o2 o3 o4; have hcl9 := o2.cell hcl7 (by simpa using hne); have hfz9 := (o2.frozen_far ⟨hh, 1, none⟩ (World.block_lt_of_cell? _ _ hcl7) (by simpa using hne)).trans hfz7))
      all_goals go_wp2_with fail
      all_goals go_roundw
      all_goals first
        | (simp [intOf]; omega)
        | (obtain ⟨x', T', k1, k2', k3, k4, k5, k6, hG', hT'⟩ := HG.out.step (by omega) (onB' (onB' (Below.refl wr.heap.size wr).drew hb6) hb7) (hRs.later hb7) ⟨by rw [y1, f6], y2, by rw [y3, f2]⟩ q1 (by rw [f5]; exact o1) o2 o3
           rw [f1] at hG'
           have hB9 := (onB' HB.out (onB' (onB' (Below.refl wr.heap.size wr).drew hb6) hb7)).grown o2 (by have := hb7.size; omega) (fun b hb => Nat.le_of_not_lt fun hl => by
             have h1 := HT.out b hl
             have h2 := HG.out.tc b hb
             omega)
           exact ⟨i + 1, x', T', _, by omega, by go_num, k1.trans f1, k2'.trans f2, k3.trans f3, k4.trans f4, k5.trans f5, k6.trans f6, hG', fun b hb => (hT' b (by omega)).trans (HT.out b hb), hB9.setCell (Nat.le_of_not_lt fun hl => by
             have h1 := HT.out hh hl
             have h2 := HG.out.th
             rw [f1] at h2
             omega) _⟩)
    · obtain rfl : i = len := by omega
      go_wp2_with fail
      refine bodyPost_ret (v := .tuple #[.pointer (some ⟨hh, 0, none⟩), .int .i64 0]) (by simp [results, Try.results29, go_sem]) rfl ?_
      have hG := HG.out
      subst f4
      have hG' := hG.done (by have := HR.out.k1; omega) (by omega)
      exact ⟨x, T, by rw [f1], by rw [f2], by rw [f3, hm], rfl, f5, by rw [f2, f3]; exact hG', HB.out, HT.out⟩
end Go.Proofs.Ythliahaopelooaa
/- The class that a size goes into; how many words it takes. -/
namespace Go.Proofs.Ythliahaopelooaa
open Go.RowKit
/-- The first class that has room for a size; k: none has. -/
structure Cls (z : Nat → Int) (k : Nat) (size : Int) (i : Nat) : Prop where
  le : i ≤ k
  low : ∀ j, j < i → z j < size
  fits : i < k → size ≤ z i
theorem cls_ex (z : Nat → Int) (k : Nat) (size : Int) : ∃ i, Cls z k size i := by
  induction k with
  | zero => exact ⟨0, Nat.le_refl _, fun j hj => absurd hj (Nat.not_lt_zero _), fun h => absurd h (Nat.not_lt_zero _)⟩
  | succ k ih =>
    obtain ⟨i, h1, h2, h3⟩ := ih
    by_cases e : i = k
    · subst e
      by_cases g : size ≤ z i
      · exact ⟨i, by omega, h2, fun _ => g⟩
      · refine ⟨i + 1, Nat.le_refl _, fun j hj => ?_, fun h => absurd h (Nat.lt_irrefl _)⟩
        by_cases e : j = i
        · subst e; omega
        · exact h2 j (by omega)
    · exact ⟨i, by omega, h2, fun _ => h3 (by omega)⟩
/-- What classFor tells. -/
def ClassSaid (x : HSpot) (i : Nat) (w : World) (e : Ending) (w' : World) : Prop :=
  e = .returned (if i < x.k then .tuple #[.agg #[.int .i64 (x.sz i), .pointer (some ⟨(x.S i).r, 0, none⟩)], .bool true] else .tuple #[.agg #[.int .i64 0, .pointer none], .bool false]) ∧ Below w.heap.size w w'
set_option maxHeartbeats 4000000 in
set_option maxRecDepth 100000 in
theorem class_for (x : HSpot) (T : Nat → Nat) (D : Nat → Int) (R : Nat → Rows) (top par : Int) (L : List (Int × Int)) (w : World) (h : HLies x T D R top par L w) (size : Int) (i : Nat) (hC : Cls x.sz x.k size i) :
    Calls Try.prog 74 #[.pointer (some ⟨x.h, 0, none⟩), .int .i64 size] w (ClassSaid x i w) := by
  obtain ⟨cb, cap, g, hT, hc, hcs, -⟩ := h.rest
  have hB := (Below.refl w.heap.size w).alloc (Nat.le_refl _) (.cells #[.int .i64 0, .pointer none] 120)
  have c1 := later' hB hc
  have HCS := Lib.hid (show ∀ j, j < x.k → cb < w.heap.size ∧ w.cell? ⟨cb, j * 2, none⟩ = some (.int .i64 (x.sz j)) ∧ w.cell? ⟨cb, j * 2 + 1, none⟩ = some (.pointer (some ⟨(x.S j).r, 0, none⟩)) from fun j hj => ⟨World.block_lt_of_cell? _ _ (hcs j hj).1, hcs j hj⟩)
  have HC := Lib.hid hC
  have HB := Lib.hid hB
  have b0 : (w.alloc (.cells #[.int .i64 0, .pointer none] 120)).cell? ⟨w.heap.size, 0, none⟩ = some (.int .i64 0) := by simp [go_sem]
  have b1 : (w.alloc (.cells #[.int .i64 0, .pointer none] 120)).cell? ⟨w.heap.size, 1, none⟩ = some (.pointer none) := by simp [go_sem]
  have z : ∀ j, (w.alloc (.cells #[.int .i64 0, .pointer none] 120)).frozen? ⟨w.heap.size, j, none⟩ = false := fun j => by simp [go_sem]
  have hz : (w.alloc (.cells #[.int .i64 0, .pointer none] 120)).heap.size = w.heap.size + 1 := by simp
  have le := hC.le
  have k6 := h.k6
  clear h hcs hc hC hB hT g
  go_enter Try.func74, Try.ntmps74
  go_upto_region 1 with fail
  generalize (w.alloc (.cells #[.int .i64 0, .pointer none] 120)) = W at *
  go_wp2_with fail
  go_loopw [13] (fun s13 wr => ∃ j : Nat, j ≤ i ∧ s13 = .int .i64 j ∧ Below W.heap.size W wr) (fun s13 _ => x.k - (intOf s13).toNat)
  case atStart => exact ⟨0, Nat.zero_le _, rfl, Below.refl _ _⟩
  case round =>
    obtain ⟨j, hj, rfl, hb⟩ := hrel
    replace b0 := later' hb b0
    replace b1 := later' hb b1
    have z' : ∀ m, wr.frozen? ⟨w.heap.size, m, none⟩ = false := fun m => (World.frozen?_of_block (w := W) (hb.block w.heap.size (by omega))).trans (z m)
    have hs := hb.size
    have HBR := Lib.hid (And.intro hb (onB' HB.out hb))
    clear hb z
    by_cases hlt : j < x.k
    · have hlt' : (j : Int) < (x.k : Int) := by omega
      obtain ⟨hl, d0, d1⟩ := HCS.out j hlt
      replace d0 := (HBR.out.2.cell (p := ⟨cb, j * 2, none⟩) hl).trans d0
      replace d1 := (HBR.out.2.cell (p := ⟨cb, j * 2 + 1, none⟩) hl).trans d1
      by_cases e : j = i
      · subst e
        have g1 := HC.out.fits hlt
        have e1 : decide (size ≤ x.sz j) = true := decide_eq_true g1
        have hx := (Below.refl wr.heap.size wr).alloc (Nat.le_refl _) (.cells #[.int .i64 (x.sz j), .pointer (some ⟨(x.S j).r, 0, none⟩)] 120)
        have x0 := later' hx b0
        have x1 := later' hx b1
        have xz : ∀ m, (wr.alloc (.cells #[.int .i64 (x.sz j), .pointer (some ⟨(x.S j).r, 0, none⟩)] 120)).frozen? ⟨w.heap.size, m, none⟩ = false := fun m => (World.frozen?_of_block (w := wr) (hx.block w.heap.size (by omega))).trans (z' m)
        have x2 := xz 0
        have x3 := xz 1
        go_wp2_with fail
        refine bodyPost_ret (v := .tuple #[.agg #[.int .i64 (x.sz j), .pointer (some ⟨(x.S j).r, 0, none⟩)], .bool true]) (by simp [results, Try.results74, go_sem, x0, x1]) rfl ?_
        exact ⟨by rw [if_pos hlt], ((onB' HBR.out.2 hx).setCell (by simp) _).setCell (by simp) _⟩
      · have g1 := HC.out.low j (by omega)
        have e1 : decide (size ≤ x.sz j) = false := decide_eq_false (by omega)
        go_wp2_with fail
        exact ⟨⟨j + 1, by omega, by go_num, HBR.out.1.alloc hs _⟩, by simp [intOf]; omega⟩
    · have z0 := z' 0
      have z1 := z' 1
      go_wp2_with fail
      refine bodyPost_ret (v := .tuple #[.agg #[.int .i64 0, .pointer none], .bool false]) (by simp [results, Try.results74, go_sem, b0, b1]) rfl ?_
      exact ⟨by rw [if_neg (by omega)], (HBR.out.2.setCell (by simp) _).setCell (by simp) _⟩
end Go.Proofs.Ythliahaopelooaa
/- A cell is taken. -/
namespace Go.Proofs.Ythliahaopelooaa
open Go.RowKit
/-- A heap's fields turn. -/
theorem HLies.setTop {x : HSpot} {T : Nat → Nat} {D : Nat → Int} {R : Nat → Rows} {top par : Int} {L : List (Int × Int)} {w : World} (h : HLies x T D R top par L w) (t : Int) :
    HLies x T D R t par L (w.setCell ⟨x.h, 4, none⟩ (.int .i64 t)) ∧ HTurn T T w (w.setCell ⟨x.h, 4, none⟩ (.int .i64 t)) := by
  obtain ⟨cb, cap, g, hT, hc, hcs, hR⟩ := h.rest
  obtain ⟨u, hu⟩ := h.at
  have hS : ∀ b, T b ≠ 0 → (w.setCell ⟨x.h, 4, none⟩ (.int .i64 t)).heap[b]? = w.heap[b]? := fun b hb => Below.heap_setCell _ _ _ _ (fun e => hb (by rw [e]; exact hT.h))
  have o : ∀ (j : Nat) (v : Value), j ≠ 4 → w.cell? ⟨x.h, j, none⟩ = some v → (w.setCell ⟨x.h, 4, none⟩ (.int .i64 t)).cell? ⟨x.h, j, none⟩ = some v := fun j v hj hv => (World.cell?_setCell_other _ _ _ _ (fun e => hj (by cases e; rfl))).trans hv
  have sz : (w.setCell ⟨x.h, 4, none⟩ (.int .i64 t)).heap.size = w.heap.size := by simp [World.setCell]
  have oc : ∀ (b j : Nat) (v : Value), T b ≠ 0 → w.cell? ⟨b, j, none⟩ = some v → (w.setCell ⟨x.h, 4, none⟩ (.int .i64 t)).cell? ⟨b, j, none⟩ = some v := fun b j v hb hv => (World.cell?_of_block (w := w) (hS b hb)).trans hv
  have hA : At (w.setCell ⟨x.h, 4, none⟩ (.int .i64 t)) x.p x.d x.n D u := hu.move (hS _ (by rw [hT.p]; omega)) (hS _ (by rw [hT.d]; omega)) (by rw [sz]; omega)
  refine ⟨⟨o 0 _ (by omega) h.arena, o 2 _ (by omega) h.large, o 3 _ (by omega) h.room, World.cell?_setCell_same _ _ _ h.top, o 5 _ (by omega) h.lim, o 6 _ (by omega) h.par, fun j => (World.frozen?_setCell _ _ _ _).trans (h.fz j), fun i hi => ?_, h.sp, h.k1, h.k6,
    cb, cap, g, hT, o 1 _ (by omega) hc, fun i hi => ⟨oc _ _ _ (by rw [hT.cb]; omega) (hcs i hi).1, oc _ _ _ (by rw [hT.cb]; omega) (hcs i hi).2⟩, hR.move (hS _ (by rw [hT.rp]; omega)) (hS _ (by rw [hT.g]; omega)) (by rw [sz]; omega)⟩,
    rfl, rfl, rfl, by rw [sz]; omega, fun b _ hb => ⟨hb, hS b (by omega)⟩⟩
  obtain ⟨e1, e2, e3⟩ := h.sp i hi
  exact (h.rings i hi).anew (by rw [sz]; omega) (fun b hb => hS b (by rw [hT.s i hi b hb]; omega)) ⟨u, by rw [e1, e2, e3]; exact hA⟩ (fun _ _ => rfl)
/-- enter, of a ring. -/
def Enters (s : Spot) (R : Rows) (D : Nat → Int) (c : Int) (w : World) (e : Ending) (w' : World) : Prop :=
  e = .returned (.tuple #[.int .i64 c, .int .i64 0]) ∧ (∃ D', RingD s (R.grow c).alloc D' w' ∧ SameBut (R.grow c) D D') ∧ Turn s w w'
set_option maxHeartbeats 1000000 in
set_option maxRecDepth 100000 in
theorem enter_ring (s : Spot) (R : Rows) (D : Nat → Int) (w : World) (hR : RingD s R D w) (c : Int) (hf : Fit s.n (c :: R.all)) (hl : R.all.length < 1000) :
    Calls Try.prog 77 #[.pointer (some ⟨s.r, 0, none⟩), .int .i64 c] w (Enters s R D c w) := by
  have H1 := Lib.hid (ringd_grow s R w D hR c hf hl)
  clear hR hf hl
  go_enter Try.func77, Try.ntmps77
  go_wp2_with fail
  refine H1.out.mono ?_
  rintro e w2 ⟨rfl, ⟨D', h2, h3⟩, ht⟩
  have H2 := Lib.hid (And.intro h2 (And.intro h3 ht))
  clear H1 h2 h3 ht
  go_wp2_with fail
  refine (ringd_alloc s (R.grow c) w2 D' H2.out.1 c R.white rfl).mono ?_
  rintro e w3 ⟨rfl, ⟨D2, h2, rfl⟩, ht⟩
  have H3 := Lib.hid (And.intro h2 ht)
  clear h2 ht
  go_wp2_with fail
  refine bodyPost_ret (v := .tuple #[.int .i64 c, .int .i64 0]) (by simp [results, Try.results77, go_sem]) rfl ?_
  exact ⟨rfl, ⟨D2, H3.out.1, H2.out.2.1⟩, H2.out.2.2.trans H3.out.2⟩
/-- Cells of two rings lie apart. -/
def Far (k : Nat) (R : Nat → Rows) : Prop := ∀ i, i ≤ k → ∀ j, j ≤ k → i ≠ j → ∀ a, a ∈ (R i).all → ∀ b, b ∈ (R j).all → a + 3 ≤ b ∨ b + 3 ≤ a
theorem far_links {k : Nat} {R : Nat → Rows} {Q : Rows} {D D' : Nat → Int} {i : Nat} (hQ : ∀ j, j ≤ k → j ≠ i → ∀ a, a ∈ Q.all → ∀ b, b ∈ (R j).all → a + 3 ≤ b ∨ b + 3 ≤ a) (hs : SameBut Q D D') : ∀ j, j ≤ k → j ≠ i → ∀ m, Links (R j) m → D' m = D m := by
  intro j hj hji m hm
  obtain ⟨b, hb, hbm⟩ := hm
  refine hs m ?_
  rintro ⟨a, ha, ham⟩
  have := hQ j hj hji a ha b hb
  omega
/-- One row turns. -/
def put1 (R : Nat → Rows) (i : Nat) (Q : Rows) : Nat → Rows := fun j => if j = i then Q else R j
/-- What takeOf does: a white cell, or a new one, or none. -/
inductive TakenOf (x : HSpot) (T : Nat → Nat) (D : Nat → Int) (R : Nat → Rows) (top par : Int) (L : List (Int × Int)) (i : Nat) (w : World) (e : Ending) (w' : World) : Prop
  | white (c : Int) (l : List Int) (hw : (R i).white = c :: l) (he : e = .returned (.tuple #[.int .i64 c, .int .i64 0])) (h : HLies x T D (put1 R i (R i).alloc) top par L w') (ht : HTurn T T w w')
  | fresh (D' : Nat → Int) (hw : (R i).white = []) (hr : top + x.sz i + 3 ≤ x.lim) (he : e = .returned (.tuple #[.int .i64 top, .int .i64 0])) (h : HLies x T D' (put1 R i ((R i).grow top).alloc) (top + x.sz i + 3) par L w') (hD : SameBut ((R i).grow top) D D') (ht : HTurn T T w w')
  | full (hw : (R i).white = []) (hr : x.lim < top + x.sz i + 3) (he : e = .returned (.tuple #[.int .i64 0, .int .i64 2])) (h : HLies x T D R top par L w') (ht : HTurn T T w w')
set_option maxHeartbeats 4000000 in
set_option maxRecDepth 100000 in
theorem take_of (x : HSpot) (T : Nat → Nat) (D : Nat → Int) (R : Nat → Rows) (top par : Int) (L : List (Int × Int)) (w : World) (h : HLies x T D R top par L w) (i : Nat) (hi : i < x.k) (hsz : 1 ≤ x.sz i ∧ x.sz i ≤ 24) (ht0 : 1 ≤ top) (ht1 : top ≤ x.lim) (hlim : x.lim ≤ x.n) (hn : x.n ≤ 65536)
    (hFar : Far x.k R) (hTop : ∀ j, j < x.k → ∀ a, a ∈ (R j).all → a + 3 ≤ top) (hBig : ∀ a, a ∈ (R x.k).all → x.lim ≤ a) (hl : (R i).all.length < 1000) :
    Calls Try.prog 75 #[.pointer (some ⟨x.h, 0, none⟩), .agg #[.int .i64 (x.sz i), .pointer (some ⟨(x.S i).r, 0, none⟩)]] w (TakenOf x T D R top par L i w) := by
  have hx := (Below.refl w.heap.size w).alloc (Nat.le_refl _) (.cells #[.int .i64 (x.sz i), .pointer (some ⟨(x.S i).r, 0, none⟩)] 120)
  have b0 : (w.alloc (.cells #[.int .i64 (x.sz i), .pointer (some ⟨(x.S i).r, 0, none⟩)] 120)).cell? ⟨w.heap.size, 0, none⟩ = some (.int .i64 (x.sz i)) := by simp [go_sem]
  have b1 : (w.alloc (.cells #[.int .i64 (x.sz i), .pointer (some ⟨(x.S i).r, 0, none⟩)] 120)).cell? ⟨w.heap.size, 1, none⟩ = some (.pointer (some ⟨(x.S i).r, 0, none⟩)) := by simp [go_sem]
  have HX := Lib.hid (And.intro hx (h.later hx))
  have hne : w.heap.size ≠ x.h := by have := h.lh; omega
  have HF := Lib.hid hFar
  have HP := Lib.hid hTop
  have HBG := Lib.hid hBig
  clear hx h hFar hTop hBig
  go_enter Try.func75, Try.ntmps75
  go_upto_region 1 with fail
  generalize (w.alloc (.cells #[.int .i64 (x.sz i), .pointer (some ⟨(x.S i).r, 0, none⟩)] 120)) = W at *
  go_wp2_with fail
  cases hw : (R i).white with
  | cons c l =>
    refine (ringd_alloc (x.S i) (R i) W D (HX.out.2.rings i (by omega)) c l hw).mono ?_
    rintro e w2 ⟨rfl, ⟨D2, h2, rfl⟩, ht⟩
    have H2 := Lib.hid (HX.out.2.ring (Nat.le_of_lt hi) h2 ht (fun _ _ _ _ _ => rfl))
    clear h2 ht
    go_wp2_with fail
    refine bodyPost_ret (v := .tuple #[.int .i64 c, .int .i64 0]) (by simp [results, Try.results75, go_sem]) rfl ?_
    exact .white c l hw rfl H2.out.1 ((HTurn.of_below HX.out.1).trans H2.out.2)
  | nil =>
    refine (ring_alloc_full (x.S i) (R i) W (HX.out.2.rings i (by omega)).ring hw).mono ?_
    rintro e w2 ⟨rfl, rfl⟩
    have hh := HX.out.2
    have c4 := hh.top
    have c5 := hh.lim
    have z4 := hh.fz 4
    have e1 : IntKind.i64.wrap (top + x.sz i) = top + x.sz i := by rw [IntKind.wrap_i64]; omega
    have e2 : IntKind.i64.wrap (top + x.sz i + 3) = top + x.sz i + 3 := by rw [IntKind.wrap_i64]; omega
    clear hh
    by_cases g : (x.lim : Int) < top + x.sz i + 3
    · have g' : decide ((x.lim : Int) < top + x.sz i + 3) = true := decide_eq_true g
      go_wp2_with fail
      go_region
      go_wp2_with fail
      refine bodyPost_ret (v := .tuple #[.int .i64 0, .int .i64 2]) (by simp [results, Try.results75, go_sem]) rfl ?_
      have hd := (Below.refl w2.heap.size w2).drew
      exact .full hw g rfl (HX.out.2.later hd) ((HTurn.of_below HX.out.1).trans (HTurn.of_below hd))
    · have g' : decide ((x.lim : Int) < top + x.sz i + 3) = false := decide_eq_false g
      go_wp2_with fail
      go_region
      obtain ⟨h3, t3⟩ := HX.out.2.setTop (top + x.sz i + 3)
      have b1' := (World.cell?_setCell_other w2 ⟨x.h, 4, none⟩ ⟨w.heap.size, 1, none⟩ (.int .i64 (top + x.sz i + 3)) (fun e => hne (congrArg Addr.block e).symm)).trans b1
      go_wp2_with fail
      have hd := (Below.refl (w2.setCell ⟨x.h, 4, none⟩ (.int .i64 (top + x.sz i + 3))).heap.size (w2.setCell ⟨x.h, 4, none⟩ (.int .i64 (top + x.sz i + 3)))).drew
      have HH := Lib.hid (And.intro (h3.later hd) (((HTurn.of_below HX.out.1).trans t3).trans (HTurn.of_below hd)))
      generalize (w2.setCell ⟨x.h, 4, none⟩ (.int .i64 (top + x.sz i + 3))).drew = W3 at *
      clear h3 t3 hd b1'
      have hfit : Fit (x.S i).n (top :: (R i).all) := by
        have hf := (HX.out.2.rings i (by omega)).fit
        have e3 := (HX.out.2.sp i (by omega)).2.2
        rw [e3] at hf ⊢
        refine ⟨fun a ha => ?_, List.pairwise_cons.2 ⟨fun a ha => Or.inr (HP.out i hi a ha), hf.far⟩⟩
        rcases List.mem_cons.1 ha with rfl | ha
        · exact ⟨ht0, by omega⟩
        · exact hf.rng a ha
      refine (enter_ring (x.S i) (R i) D W3 (HH.out.1.rings i (by omega)) top hfit hl).mono ?_
      rintro e w4 ⟨rfl, ⟨D', h5, h6⟩, ht⟩
      have hfar : ∀ j, j ≤ x.k → j ≠ i → ∀ a, a ∈ ((R i).grow top).all → ∀ b, b ∈ (R j).all → a + 3 ≤ b ∨ b + 3 ≤ a := by
        intro j hj hji a ha b hb
        rcases List.mem_cons.1 (show a ∈ top :: (R i).all from ha) with rfl | ha
        · by_cases ek : j = x.k
          · subst ek
            have := HBG.out b hb
            omega
          · exact Or.inr (HP.out j (by omega) b hb)
        · exact HF.out i (by omega) j hj (Ne.symm hji) a ha b hb
      have H5 := Lib.hid (And.intro (HH.out.1.ring (Nat.le_of_lt hi) h5 ht (far_links hfar h6)) h6)
      clear h5 h6 ht hfar hfit
      go_wp2_with fail
      refine bodyPost_ret (v := .tuple #[.int .i64 top, .int .i64 0]) (by simp [results, Try.results75, go_sem]) rfl ?_
      exact .fresh D' hw (by omega) rfl H5.out.1.1 H5.out.2 (HH.out.2.trans H5.out.1.2)
end Go.Proofs.Ythliahaopelooaa
/- An object's word, in numbers: what is joined, what is split off, and which objects fit. -/
namespace Go.Proofs.Ythliahaopelooaa.Ce
open Go
/-- Within 64 bits. -/
def InR (a : Int) : Prop := -9223372036854775808 ≤ a ∧ a ≤ 9223372036854775807
theorem and_low (n : Int) (k : Nat) (hk : k ≤ 62) : bits .and .i64 n ((2 ^ k - 1 : Nat) : Int) = n % ((2 ^ k : Nat) : Int) := by
  have hp : (2 : Nat) ^ k ∣ 2 ^ 64 := Nat.pow_dvd_pow 2 (by omega)
  have hlt : 2 ^ k ≤ 2 ^ 62 := Nat.pow_le_pow_right (by decide) hk
  have hpos : 0 < 2 ^ k := Nat.pow_pos (by decide)
  have hm : (BitVec.ofInt 64 ((2 ^ k - 1 : Nat) : Int)).toNat = 2 ^ k - 1 := by
    rw [BitVec.ofInt_natCast, BitVec.toNat_ofNat]
    exact Nat.mod_eq_of_lt (by omega)
  have key : (BitVec.ofInt 64 n &&& BitVec.ofInt 64 ((2 ^ k - 1 : Nat) : Int)).toNat = (n % ((2 ^ 64 : Nat) : Int)).toNat % 2 ^ k := by
    rw [BitVec.toNat_and, BitVec.toNat_ofInt, hm, Nat.and_two_pow_sub_one_eq_mod]
  show IntKind.i64.wrap ((BitVec.ofInt 64 n &&& BitVec.ofInt 64 ((2 ^ k - 1 : Nat) : Int)).toNat : Nat) = _
  rw [key, IntKind.wrap_i64]
  have h0 : 0 ≤ n % ((2 ^ 64 : Nat) : Int) := Int.emod_nonneg _ (by decide)
  have h1 : (((n % ((2 ^ 64 : Nat) : Int)).toNat % 2 ^ k : Nat) : Int) = n % ((2 ^ k : Nat) : Int) := by
    rw [Int.natCast_emod, Int.toNat_of_nonneg h0]
    exact Int.emod_emod_of_dvd n (Int.natCast_dvd_natCast.2 hp)
  rw [h1]
  have h2 : 0 ≤ n % ((2 ^ k : Nat) : Int) := Int.emod_nonneg _ (by omega)
  have h3 : n % ((2 ^ k : Nat) : Int) < ((2 ^ k : Nat) : Int) := Int.emod_lt_of_pos _ (by omega)
  omega
theorem and1 (n : Int) : bits .and .i64 n 1 = n % 2 := and_low n 1 (by decide)
theorem and15 (n : Int) : bits .and .i64 n 15 = n % 16 := and_low n 4 (by decide)
theorem and31 (n : Int) : bits .and .i64 n 31 = n % 32 := and_low n 5 (by decide)
theorem and24 (n : Int) : bits .and .i64 n 16777215 = n % 16777216 := and_low n 24 (by decide)
/-- What stands in the bits of each part. -/
def kb (w : Int) : Int := w % 16
def mb (w : Int) : Int := w / 16 % 2
def sb (w : Int) : Int := w / 32 % 32
def ab (w : Int) : Int := w / 1024 % 16777216
/-- The parts, each at its bit. -/
def jn (k s a m : Int) : Int := k + m * 16 + s * 32 + a * 1024
/-- Each part in its bounds. -/
def Fit (k s a m : Int) : Prop := (0 ≤ k ∧ k ≤ 10) ∧ (0 ≤ s ∧ s ≤ 31) ∧ (0 ≤ a ∧ a ≤ 16777215) ∧ (0 ≤ m ∧ m ≤ 1)
/-- The error that an object has. -/
def pe (k s a m : Int) : Int := if k < 0 ∨ 10 < k then 6 else if s < 0 ∨ 31 < s ∨ a < 0 ∨ 16777215 < a ∨ m < 0 ∨ 1 < m then 1 else 0
/-- The word that an object has. -/
def pw (k s a m : Int) : Int := if pe k s a m = 0 then jn k s a m else 0
theorem pe_fit (k s a m : Int) : pe k s a m = 0 ↔ Fit k s a m := by
  unfold pe Fit
  split
  · omega
  · split <;> omega
theorem pe_ok {k s a m : Int} (h : Fit k s a m) : pe k s a m = 0 := (pe_fit _ _ _ _).2 h
theorem pw_ok {k s a m : Int} (h : Fit k s a m) : pw k s a m = jn k s a m := by unfold pw; rw [if_pos (pe_ok h)]
theorem jn_range {k s a m : Int} (h : Fit k s a m) : 0 ≤ jn k s a m ∧ jn k s a m < 17179869184 := by unfold Fit at h; unfold jn; omega
theorem pe_kind {k s a m : Int} (h : k < 0 ∨ 10 < k) : pe k s a m = 6 := by unfold pe; rw [if_pos h]
theorem pw_kind {k s a m : Int} (h : k < 0 ∨ 10 < k) : pw k s a m = 0 := by unfold pw; rw [pe_kind h]; rfl
theorem pe_range {k s a m : Int} (h : ¬ (k < 0 ∨ 10 < k)) (h2 : ¬ Fit k s a m) : pe k s a m = 1 := by
  unfold pe; rw [if_neg h, if_pos]; unfold Fit at h2; omega
theorem pw_range {k s a m : Int} (h : ¬ (k < 0 ∨ 10 < k)) (h2 : ¬ Fit k s a m) : pw k s a m = 0 := by
  unfold pw; rw [pe_range h h2]; rfl
/-- What is split off what was joined, whatever was joined. -/
theorem parts_of {k s a m w : Int} (h : Fit k s a m) (hw : w = jn k s a m) : kb w = k ∧ sb w = s ∧ ab w = a ∧ mb w = m := by
  subst hw; unfold Fit at h; unfold kb sb ab mb jn; omega
theorem fit_of {k s a m : Int} (w : Int) (hk : ¬ (k < 0 ∨ 10 < k)) (h : kb w = k ∧ sb w = s ∧ ab w = a ∧ mb w = m) : Fit k s a m := by
  obtain ⟨h1, h2, h3, h4⟩ := h
  unfold kb sb ab mb at *; unfold Fit; omega
/-- The word of what is split off a word. -/
theorem jn_parts (w : Int) : jn (kb w) (sb w) (ab w) (mb w) = w % 17179869184 := by unfold kb sb ab mb jn; omega
/-- There is an object of this word. -/
def Word (w : Int) : Prop := 0 ≤ w ∧ w < 17179869184 ∧ w % 16 ≤ 10
theorem word_fit (w : Int) (h : Word w) : Fit (kb w) (sb w) (ab w) (mb w) := by unfold Word at h; unfold Fit kb sb ab mb; omega
theorem jn_word (w : Int) (h : Word w) : jn (kb w) (sb w) (ab w) (mb w) = w := by rw [jn_parts]; unfold Word at h; omega
theorem word_jn {k s a m : Int} (h : Fit k s a m) : Word (jn k s a m) := by unfold Fit at h; unfold Word jn; omega
end Go.Proofs.Ythliahaopelooaa.Ce
