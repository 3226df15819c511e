/- What a law begins with: a ring that is made, beside the document's; the document's example. -/
import Derived.Test.YtbjlpmjalidfkaaRiL
namespace Go.Proofs.Ytbjlpmjalidfkaa
open Go.RowKit Go.Shelf

/-- THE DOCUMENT's RING AS IT LIES: four rows, and how many words. -/
def Ref (w : World) (q n : Nat) (R : Rows) : Prop :=
  ∃ v0 v1 v2 v3, w.cell? ⟨q, 0, none⟩ = some v0 ∧ w.cell? ⟨q, 1, none⟩ = some v1 ∧ w.cell? ⟨q, 2, none⟩ = some v2 ∧ w.cell? ⟨q, 3, none⟩ = some v3 ∧ w.cell? ⟨q, 4, none⟩ = some (.int .i64 n) ∧
    (∀ j, w.frozen? ⟨q, j, none⟩ = false) ∧ Fours w (q + 1) w.heap.size v0 v1 v2 v3 R ∧ q < w.heap.size

theorem Ref.lq {w : World} {q n : Nat} {R : Rows} (h : Ref w q n R) : q < w.heap.size := by
  obtain ⟨_, _, _, _, _, _, _, _, _, _, _, h⟩ := h
  exact h
theorem Ref.same {w w' : World} {q n : Nat} {R : Rows} (h : Ref w q n R) (hs : w.heap.size ≤ w'.heap.size) (hk : ∀ b, q ≤ b → b < w.heap.size → (∃ o : Obj, w.heap[b]? = some o ∧ o.isCells = true) → w'.heap[b]? = w.heap[b]?) : Ref w' q n R := by
  obtain ⟨v0, v1, v2, v3, h0, h1, h2, h3, h4, hf, hr, hq⟩ := h
  have hb : w'.heap[q]? = w.heap[q]? := hk q (Nat.le_refl _) hq (cells_of_cell h0)
  have c : ∀ j (x : Value), w.cell? ⟨q, j, none⟩ = some x → w'.cell? ⟨q, j, none⟩ = some x := fun j x hx => (World.cell?_of_block (w := w) hb).trans hx
  have r : ∀ (v : Value) (l : List Int), Row w (q + 1) w.heap.size v l → Row w' (q + 1) w'.heap.size v l := fun v l h => (h.same fun b o g1 g2 g3 g4 => (hk b (by omega) g2 ⟨o, g3, g4⟩).trans g3).mono (Nat.le_refl _) hs
  exact ⟨v0, v1, v2, v3, c _ _ h0, c _ _ h1, c _ _ h2, c _ _ h3, c _ _ h4, fun j => (World.frozen?_of_block (w := w) hb).trans (hf j), ⟨r _ _ hr.1, r _ _ hr.2.1, r _ _ hr.2.2.1, r _ _ hr.2.2.2⟩, Nat.lt_of_lt_of_le hq hs⟩
theorem Ref.later {w w' : World} {q n : Nat} {R : Rows} (h : Ref w q n R) (hb : Below w.heap.size w w') : Ref w' q n R := h.same hb.size fun b _ h2 _ => hb.block b h2
theorem Ref.turn {w w' : World} {q n : Nat} {R : Rows} {s : Spot} (h : Ref w q n R) (ht : Turn s w w') (h1 : s.r < q) (h2 : s.p < q) (h3 : s.d < q) : Ref w' q n R :=
  h.same ht.size fun b h4 h5 _ => ht.block b h5 (by omega) (by omega) (by omega)

/-- What 'made' hands over. -/
def Made (n : Nat) (w : World) (e : Ending) (w' : World) : Prop :=
  ∃ (s : Spot) (q : Nat), e = .returned (.tuple #[.pointer (some ⟨s.p, 0, none⟩), .pointer (some ⟨s.r, 0, none⟩), .pointer (some ⟨q, 0, none⟩), .bool true]) ∧ s.n = n ∧ Ring s none4 w' ∧ Ref w' q n none4 ∧ s.r < q ∧ s.p < q ∧ s.d < q ∧
    w.heap.size ≤ s.r ∧ w.heap.size ≤ s.p ∧ w.heap.size ≤ s.d ∧ Below w.heap.size w w'

set_option maxHeartbeats 4000000 in
theorem made_in (n : Nat) (w : World) (h0 : 1 ≤ n) (h1 : n ≤ 65536) :
    Calls Try.prog 9 #[.int .i64 n] w (Made n w) := by
  go_enter Try.func9, Try.ntmps9
  go_wp2_with fail
  refine (new_in n (by omega) (by omega) w).mono ?_
  rintro e w2 ⟨p, d, rfl, hA, hB, hp, hd⟩
  rw [Int.toNat_natCast] at hA
  have HA := Lib.hid hA
  have HB := Lib.hid hB
  clear hA hB
  go_wp2_with fail
  refine (ring_new p d n _ _ w2 HA.out h1).mono ?_
  rintro e w3 ⟨s, rfl, rfl, rfl, rfl, hR, hB3, hr⟩
  have HR := Lib.hid hR
  have HB3 := Lib.hid (onB' HB.out hB3)
  have lp := HA.out.lp
  have ld := HA.out.ld
  have hs3 := hB3.size
  have hs2 := HB.out.size
  have lr : s.r < w3.heap.size := by
    obtain ⟨_, _, _, hL, _⟩ := hR
    exact hL.lr
  clear hR hB3 HA HB
  go_wp2_with fail
  have hb : Below w3.heap.size w3 (w3.alloc (.cells #[.slice none 0 0, .slice none 0 0, .slice none 0 0, .slice none 0 0, .int .i64 s.n] 85)) := (Below.refl _ _).alloc (Nat.le_refl _) _
  have he : Ref (w3.alloc (.cells #[.slice none 0 0, .slice none 0 0, .slice none 0 0, .slice none 0 0, .int .i64 s.n] 85)) w3.heap.size s.n none4 := by
    refine ⟨.slice none 0 0, .slice none 0 0, .slice none 0 0, .slice none 0 0, by simp [go_sem], by simp [go_sem], by simp [go_sem], by simp [go_sem], by simp [go_sem], fun j => by simp [go_sem], ?_, by simp⟩
    have hz : ∀ l : List Int, l = [] → Row (w3.alloc (.cells #[.slice none 0 0, .slice none 0 0, .slice none 0 0, .slice none 0 0, .int .i64 s.n] 85)) (w3.heap.size + 1) (w3.alloc (.cells #[.slice none 0 0, .slice none 0 0, .slice none 0 0, .slice none 0 0, .int .i64 s.n] 85)).heap.size (.slice none 0 0) l := fun l e => ⟨none, 0, by rw [e]; rfl, fun h => by rw [e] at h; exact absurd h (by simp)⟩
    exact ⟨hz _ rfl, hz _ rfl, hz _ rfl, hz _ rfl⟩
  have HE := Lib.hid (And.intro (HR.out.later hb) (And.intro he (onB' HB3.out hb)))
  clear hb he
  refine bodyPost_ret (v := .tuple #[.pointer (some ⟨s.p, 0, none⟩), .pointer (some ⟨s.r, 0, none⟩), .pointer (some ⟨w3.heap.size, 0, none⟩), .bool true]) (by simp [results, Try.results9, go_sem]) rfl ?_
  exact ⟨s, _, rfl, rfl, HE.out.1, HE.out.2.1, lr, by omega, by omega, by omega, by omega, by omega, HE.out.2.2⟩

theorem fit_nil (n : Nat) : Fit n [] := ⟨fun x hx => (by cases hx), List.Pairwise.nil⟩

set_option maxHeartbeats 8000000 in
/-- THE DOCUMENT's EXAMPLE. -/
theorem awake_any (w : World) : Calls Try.prog 8 #[] w fun e w' => e = .returned (.bool true) ∧ Below w.heap.size w w' := by
  go_enter Try.func8, Try.ntmps8
  go_wp2_with fail
  refine (made_in 9 w (by decide) (by decide)).mono ?_
  rintro e w2 ⟨s, q, rfl, hn, hR, _, _, _, _, l1, l2, l3, hb⟩
  have HR := Lib.hid hR
  have HB := Lib.hid hb
  clear hR hb
  go_wp2_with fail
  refine (ring_grow s _ w2 HR.out 1 (by rw [hn]; exact ⟨by simp [none4, Rows.all], by simp [none4, Rows.all]⟩) (by simp [none4, Rows.all])).mono ?_
  rintro e w3 ⟨rfl, hR, ht⟩
  have HB3 := Lib.hid (HB.out.trans (ht.below l1 l2 l3 HB.out.size))
  have HR3 := Lib.hid (show Ring s ⟨[1], [], [], []⟩ w3 from hR)
  clear hR ht HR HB
  go_wp2_with fail
  refine (ring_grow s _ w3 HR3.out 5 (by rw [hn]; exact ⟨by simp [Rows.all], by simp [Rows.all]⟩) (by simp [Rows.all])).mono ?_
  rintro e w4 ⟨rfl, hR, ht⟩
  have HB4 := Lib.hid (HB3.out.trans (ht.below l1 l2 l3 HB3.out.size))
  have HR4 := Lib.hid (show Ring s ⟨[5, 1], [], [], []⟩ w4 from hR)
  clear hR ht HR3 HB3
  go_wp2_with fail
  refine (ring_alloc s _ w4 HR4.out 5 [1] rfl).mono ?_
  rintro e w5 ⟨rfl, hR, ht⟩
  have HB5 := Lib.hid (HB4.out.trans (ht.below l1 l2 l3 HB4.out.size))
  have HR5 := Lib.hid (show Ring s ⟨[1], [], [], [5]⟩ w5 from hR)
  clear hR ht HR4 HB4
  go_wp2_with fail
  refine (ring_begin s _ w5 HR5.out rfl rfl).mono ?_
  rintro e w6 ⟨rfl, hR, ht⟩
  have HB6 := Lib.hid (HB5.out.trans (ht.below l1 l2 l3 HB5.out.size))
  have HR6 := Lib.hid (show Ring s ⟨[1], [5], [], []⟩ w6 from hR)
  clear hR ht HR5 HB5
  go_wp2_with fail
  refine (ring_list s _ w6 HR6.out).mono ?_
  rintro e w7 ⟨v0, v1, v2, v3, rfl, r0, r1, r2, r3, hR, ht⟩
  have HB7 := Lib.hid (HB6.out.trans (ht.below l1 l2 l3 HB6.out.size))
  have HF := Lib.hid (show Fours w7 w6.heap.size w7.heap.size v0 v1 v2 v3 ⟨[1], [5], [], []⟩ from ⟨r0, r1, r2, r3⟩)
  clear hR ht HR6 HB6 r0 r1 r2 r3
  go_wp2_with fail
  have hb8 : Below w7.heap.size w7 ((w7.alloc (.cells #[.int .i64 1] 3)).alloc (.cells #[.int .i64 5] 3)) := ((Below.refl _ _).alloc (Nat.le_refl _) _).alloc (by simp) _
  have hg : Fours ((w7.alloc (.cells #[.int .i64 1] 3)).alloc (.cells #[.int .i64 5] 3)) w7.heap.size ((w7.alloc (.cells #[.int .i64 1] 3)).alloc (.cells #[.int .i64 5] 3)).heap.size (.slice (some ⟨w7.heap.size, 0, none⟩) 1 1) (.slice (some ⟨w7.heap.size + 1, 0, none⟩) 1 1) (.slice none 0 0) (.slice none 0 0) ⟨[1], [5], [], []⟩ := by
    refine ⟨⟨_, 0, rfl, fun _ => ⟨w7.heap.size, rfl, Nat.le_refl _, by simp; omega, fun i x hx => ?_⟩⟩, ⟨_, 0, rfl, fun _ => ⟨w7.heap.size + 1, rfl, by omega, by simp, fun i x hx => ?_⟩⟩, ⟨none, 0, rfl, fun h => absurd h (by simp)⟩, ⟨none, 0, rfl, fun h => absurd h (by simp)⟩⟩
    · cases i with
      | zero => cases hx; simp [go_sem]
      | succ i => simp at hx
    · cases i with
      | zero => cases hx; simp [go_sem]
      | succ i => simp at hx
  refine (same_any v0 v1 v2 v3 _ _ _ _ ⟨[1], [5], [], []⟩ w6.heap.size w7.heap.size w7.heap.size _ _ (HF.out.below hb8 (Nat.le_refl _)) hg (by simp [Rows.all]) (by simp; omega) (Nat.le_refl _)).mono ?_
  rintro e w9 ⟨rfl, hb9⟩
  have HB9 := Lib.hid (onB' (onB' HB7.out hb8) hb9)
  clear hb8 hb9 hg HF HB7
  go_wp2_with fail
  go_ret
  exact ⟨rfl, HB9.out⟩

end Go.Proofs.Ytbjlpmjalidfkaa
