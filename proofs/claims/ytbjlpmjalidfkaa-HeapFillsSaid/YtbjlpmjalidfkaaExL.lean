/- Room, with places or without: what each call answers, and what it leaves. -/
import Derived.Test.YtbjlpmjalidfkaaExJ
namespace Go.Proofs.Ytbjlpmjalidfkaa.Ex
open Go.RowKit Go.Sort

section
variable {w w' : World} {p : Nat} {F : Int}
theorem None.move (h : None w p F) (hp : w'.heap[p]? = w.heap[p]?) (hs : w.heap.size ≤ w'.heap.size) : None w' p F :=
  ⟨(World.cell?_of_block (w := w) hp).trans h.first, (World.cell?_of_block (w := w) hp).trans h.places, (World.cell?_of_block (w := w) hp).trans h.free, Nat.lt_of_lt_of_le h.lp hs⟩
theorem None.later (h : None w p F) (hb : Below w.heap.size w w') : None w' p F := h.move (hb.block p h.lp) hb.size
end

set_option maxHeartbeats 1000000 in
set_option maxRecDepth 100000 in
theorem index_none (fv : Value) (w : World) :
    Calls Try.prog 102 #[.slice none 0 0, fv] w fun e w' => e = .returned (.int .i64 (-1)) ∧ w' = w := by
  go_enter Try.func102, Try.ntmps102
  go_wp2_with fail
  go_loopw [5, 8] (fun _ s8 wr => s8 = .int .i64 0 ∧ wr = w) (fun _ _ _ => 0)
  case atStart => exact ⟨rfl, rfl⟩
  case round =>
    obtain ⟨rfl, rfl⟩ := hrel
    go_wp2_with fail
    go_ret
    exact ⟨rfl, rfl⟩

set_option maxHeartbeats 1000000 in
set_option maxRecDepth 100000 in
theorem take_none (p : Nat) (F n : Int) (w : World) (hA : None w p F) (hn : 1 ≤ n) :
    Calls Try.prog 85 #[.pointer (some ⟨p, 0, none⟩), .int .i64 n] w fun e w' => e = .returned (.tuple #[.int .i64 0, .int .i64 2]) ∧ Below w.heap.size w w' := by
  have hb := (Below.refl w.heap.size w).alloc (Nat.le_refl _) (.cells #[.int .i64 n] 3)
  have lp := hA.lp
  have hf := hA.free
  have HB := Lib.hid hb
  clear hA hb
  go_enter Try.func85, Try.ntmps85
  go_wp2_with fail
  refine (index_none _ _).mono ?_
  rintro e w2 ⟨rfl, rfl⟩
  go_wp2_with fail
  go_ret2
  exact ⟨rfl, HB.out⟩

/-- ROOM: its runs, and where they lie. -/
structure Room (w : World) (p g : Nat) (F N : Int) (L : List (Int × Int)) : Prop where
  good : Good F (F + N) L
  f0 : 0 ≤ F
  f1 : F ≤ 65536
  n0 : 0 ≤ N
  n1 : N ≤ 65536
  lies : (∃ cap, At w p g cap F N L) ∨ (N = 0 ∧ L = [] ∧ g = p ∧ None w p F)

section
variable {w w' : World} {p g : Nat} {F N : Int} {L : List (Int × Int)}
theorem Room.lp (h : Room w p g F N L) : p < w.heap.size := by
  rcases h.lies with ⟨cap, h⟩ | ⟨_, _, _, h⟩
  · exact h.lp
  · exact h.lp
theorem Room.lg (h : Room w p g F N L) : g < w.heap.size := by
  rcases h.lies with ⟨cap, h⟩ | ⟨_, _, rfl, h⟩
  · exact h.lg
  · exact h.lp
theorem Room.move (h : Room w p g F N L) (hp : w'.heap[p]? = w.heap[p]?) (hd : w'.heap[g]? = w.heap[g]?) (hs : w.heap.size ≤ w'.heap.size) : Room w' p g F N L :=
  ⟨h.good, h.f0, h.f1, h.n0, h.n1, by
    rcases h.lies with ⟨cap, h⟩ | ⟨h1, h2, h3, h⟩
    · exact Or.inl ⟨cap, h.move hp hd hs⟩
    · exact Or.inr ⟨h1, h2, h3, h.move hp hs⟩⟩
theorem Room.later (h : Room w p g F N L) (hb : Below w.heap.size w w') : Room w' p g F N L := h.move (hb.block p h.lp) (hb.block g h.lg) hb.size
theorem Room.small (h : Room w p g F N L) : L.length ≤ 65536 := by
  have := good_length h.good (by have := h.n0; omega)
  have := h.n1
  omega
theorem Room.sum (h : Room w p g F N L) : 0 ≤ total L ∧ total L ≤ N := by
  have := good_total h.good (by have := h.n0; omega)
  omega
end

def whole (F N : Int) : List (Int × Int) := if N = 0 then [] else [(F, N)]

theorem room_new (F N : Int) (w : World) (h0 : 0 ≤ F ∧ F ≤ 65536) (h1 : 0 ≤ N ∧ N ≤ 65536) :
    Calls Try.prog 53 #[.int .i64 F, .int .i64 N] w fun e w' => ∃ p g, e = .returned (.tuple #[.pointer (some ⟨p, 0, none⟩), .int .i64 0]) ∧ Room w' p g F N (whole F N) ∧ Below w.heap.size w w' ∧ w.heap.size ≤ p ∧ w.heap.size ≤ g := by
  unfold whole
  by_cases e : N = 0
  · subst e
    rw [if_pos rfl]
    refine (new_none F w h0).mono ?_
    rintro e w' ⟨p, rfl, hn, hb, hp⟩
    exact ⟨p, p, rfl, ⟨trivial, h0.1, h0.2, Int.le_refl _, by omega, Or.inr ⟨rfl, rfl, rfl, hn⟩⟩, hb, hp, hp⟩
  · rw [if_neg e]
    refine (new_some F N w h0 (by omega)).mono ?_
    rintro e w' ⟨p, g, rfl, hn, hb, hp, hg⟩
    exact ⟨p, g, rfl, ⟨good_start (by omega), h0.1, h0.2, h1.1, h1.2, Or.inl ⟨1, hn⟩⟩, hb, hp, hg⟩

theorem room_take (p g : Nat) (F N n : Int) (L : List (Int × Int)) (w : World) (hR : Room w p g F N L) :
    Calls Try.prog 85 #[.pointer (some ⟨p, 0, none⟩), .int .i64 n] w fun e w' => e = .returned (.tuple #[.int .i64 (tAt n L), .int .i64 (tErr n L)]) ∧
      ∃ g' M, Room w' p g' F N M ∧ Took F (F + N) n L M ∧ Apart p g w w' ∧ (g' = g ∨ w.heap.size ≤ g') := by
  by_cases hn : n < 1
  · obtain ⟨e1, e2⟩ := tErr_le (L := L) hn
    refine (take_range ⟨p, 0, none⟩ n w hn).mono ?_
    rintro e w' ⟨rfl, hb⟩
    exact ⟨by rw [e1, e2], g, L, hR.later hb, took_same hR.good (by omega), Apart.of_below hb, Or.inl rfl⟩
  · rcases spot_cases n L with h | ⟨A, a, k, B, rfl, hA, hk⟩
    · have e1 : tErr n L = 2 := by rw [tErr, if_neg hn, spot_none h]; rfl
      have e2 : tAt n L = 0 := by rw [tAt, if_neg hn, spot_none h]; rfl
      have hc : Calls Try.prog 85 #[.pointer (some ⟨p, 0, none⟩), .int .i64 n] w fun e w' => e = .returned (.tuple #[.int .i64 0, .int .i64 2]) ∧ Below w.heap.size w w' := by
        rcases hR.lies with ⟨cap, hA⟩ | ⟨_, _, _, hA⟩
        · exact take_full p g cap F N n L w hA (by omega) h
        · exact take_none p F n w hA (by omega)
      refine hc.mono ?_
      rintro e w' ⟨rfl, hb⟩
      exact ⟨by rw [e1, e2], g, L, hR.later hb, took_same hR.good (by omega), Apart.of_below hb, Or.inl rfl⟩
    · obtain ⟨e1, e2, e3⟩ := took_cut hR.good (by omega) hA hk
      obtain ⟨cap, hAt⟩ : ∃ cap, At w p g cap F N (A ++ (a, k) :: B) := by
        rcases hR.lies with h | ⟨_, h, _⟩
        · exact h
        · simp at h
      have hx := good_mem hR.good (x := (a, k)) (by simp)
      have b0 := hR.f0
      have b1 := hR.f1
      have b2 := hR.n1
      simp only at hx
      refine (take_hit p g cap F N n A B a k w hAt (by omega) hA hk (by have := hR.small; omega) (by omega) (by omega)).mono ?_
      rintro e w' ⟨rfl, h1, h2⟩
      exact ⟨by rw [e1, e2], g, _, ⟨e3.1, hR.f0, hR.f1, hR.n0, hR.n1, Or.inl ⟨cap, h1⟩⟩, e3, h2, Or.inl rfl⟩

theorem room_give (p g : Nat) (F N a n : Int) (L : List (Int × Int)) (w : World) (hR : Room w p g F N L) (ha : a ≤ 9223372036854775807) :
    Calls Try.prog 68 #[.pointer (some ⟨p, 0, none⟩), .int .i64 a, .int .i64 n] w fun e w' => e = .returned (.int .i64 (gErr F N a n L)) ∧
      ∃ g' M, Room w' p g' F N M ∧ Given F (F + N) F N a n L M ∧ Apart p g w w' ∧ (g' = g ∨ w.heap.size ≤ g') := by
  have b0 := hR.f0
  have b1 := hR.f1
  have b2 := hR.n0
  have b3 := hR.n1
  by_cases hw : within F N a n
  · obtain ⟨cap, hAt⟩ : ∃ cap, At w p g cap F N L := by
      rcases hR.lies with h | ⟨h, _⟩
      · exact h
      · obtain ⟨w1, w2, w3⟩ := hw
        omega
    have hL := bounds_of_good hR.good b0 (by omega)
    rcases hits_cases a n L with ⟨h, hh⟩ | ⟨h, A, x, B, rfl, hh, hx⟩
    · have e1 : gErr F N a n L = 0 := by rw [gErr, if_pos hw, h]; rfl
      obtain ⟨A, B, rfl, p1, p2, p3⟩ := part_at a hR.good
      have hGA : Good F a A := good_hi (good_left hR.good) fun x hx => by
        have h1 := hh x (List.mem_append_left _ hx)
        have h2 := p1 x hx
        have h3 := hw.1
        simp at h1
        omega
      have hGB : Good (a + n) (F + N) B := good_lo (good_right hR.good) fun x hx => by
        have h1 := hh x (List.mem_append_right _ hx)
        have h2 := p3 x hx
        have h3 := good_mem (good_right hR.good) hx
        simp at h1
        omega
      refine (give_ok p g cap A.length F N a n A B w hAt b0 (by omega) b2 (by omega) hw rfl (by have := hR.small; omega) hL hh p1 p2 hGB).mono ?_
      rintro e w' ⟨rfl, g', cap', m, B', M, hg, h1, h2, h3, h4⟩
      have hG := given_join hR.good hw hw.2.1 hw.2.2 h hGA hGB hg h4
      exact ⟨by rw [e1], g', M, ⟨hG.1, b0, b1, b2, b3, Or.inl ⟨cap', h1⟩⟩, hG, h2, h3⟩
    · have e1 : gErr F N a n (A ++ x :: B) = 5 := by rw [gErr, if_pos hw, h]; rfl
      refine (give_twice p g cap F N a n A B x w hAt b0 (by omega) b2 (by omega) hw hL hh hx).mono ?_
      rintro e w' ⟨rfl, hb⟩
      exact ⟨by rw [e1], g, _, hR.later hb, given_same hR.good (by omega), Apart.of_below hb, Or.inl rfl⟩
  · have e1 : gErr F N a n L = 1 := by rw [gErr, if_neg hw]
    obtain ⟨c0, c1⟩ : w.cell? ⟨p, 0, none⟩ = some (.int .i64 F) ∧ w.cell? ⟨p, 1, none⟩ = some (.int .i64 N) := by
      rcases hR.lies with ⟨cap, h⟩ | ⟨rfl, _, _, h⟩
      · exact ⟨h.first, h.places⟩
      · exact ⟨h.first, h.places⟩
    refine (give_range p F N a n w c0 c1 b0 (by omega) b2 (by omega) ha hw).mono ?_
    rintro e w' ⟨rfl, hb⟩
    exact ⟨by rw [e1], g, L, hR.later hb, given_same hR.good (by omega), Apart.of_below hb, Or.inl rfl⟩

end Go.Proofs.Ytbjlpmjalidfkaa.Ex
