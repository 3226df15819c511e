/- The stack in the midst of a law; the document's example. -/
import Derived.Test.YtalfhcmccdnajaaSkE
import Derived.Test.YtalfhcmccdnajaaSkM
namespace Go.Proofs.Ytalfhcmccdnajaa
open Go.RowKit Go.Sort

/-- The stack in the midst of a law that began at w. -/
structure Mid (w : World) (p : Nat) (room : Int) (v : Value) (L : List Fr) (left : Nat) (W : World) : Prop where
  st : St W p room v L left
  below : Below w.heap.size w W
  lp : w.heap.size ≤ p
  lo : ∀ g, v.ownBlock = some g → w.heap.size ≤ g
/-- A block that is not the stack's. -/
def Off (b p : Nat) (v : Value) : Prop := b ≠ p ∧ some b ≠ v.ownBlock
section
variable {w W W' : World} {p left left' : Nat} {room : Int} {v v' : Value} {L L' : List Fr}
theorem Mid.later (h : Mid w p room v L left W) (hb : Below W.heap.size W W') : Mid w p room v L left W' := ⟨h.st.later hb, h.below.trans (hb.mono h.below.size), h.lp, h.lo⟩
/-- Another value for the list; what has turned. -/
def Went (p : Nat) (v v' : Value) (W W' : World) : Prop := Turn p v W W' ∧ ∀ g, v'.ownBlock = some g → v.ownBlock = some g ∨ W.heap.size ≤ g
theorem Mid.did (h : Mid w p room v L left W) (hd : Did p room v W L' left' W') : ∃ v', Mid w p room v' L' left' W' ∧ Went p v v' W W' := by
  obtain ⟨v', h1, h2, h3⟩ := hd
  refine ⟨v', ⟨h1, h.below.trans (h2.below h.lp h.lo h.below.size), h.lp, fun g hg => ?_⟩, h2, h3⟩
  rcases h3 g hg with h' | h'
  · exact h.lo g h'
  · have := h.below.size; omega
theorem Off.went {b : Nat} (h : Off b p v) (hw : Went p v v' W W') (hb : b < W.heap.size) : Off b p v' ∧ W'.heap[b]? = W.heap[b]? :=
  ⟨⟨h.1, fun e => by rcases hw.2 b e.symm with h' | h' <;> first | exact h.2 h'.symm | omega⟩, hw.1.block b hb h.1 h.2⟩
theorem off_new {b : Nat} (h : Mid w p room v L left W) (hb : W.heap.size ≤ b) : Off b p v := ⟨by have := h.st.lp; omega, fun e => by have := h.st.fs.lt b e.symm; omega⟩
end

set_option maxHeartbeats 8000000 in
/-- THE DOCUMENT's EXAMPLE. -/
theorem awake_any (w : World) : Calls Try.prog 7 #[] w fun e w' => e = .returned (.bool true) ∧ Below w.heap.size w w' := by
  go_enter Try.func7, Try.ntmps7
  go_wp2_with fail
  refine (new_in 6 (by decide) (by decide) _).mono ?_
  rintro e w1 ⟨p, v, rfl, hS, hB, hp, hv⟩
  have HM : Hid (Mid w p 6 v [] 0 w1) := ⟨hS, hB, hp, fun g hg => by rw [hv] at hg; cases hg⟩
  clear hS hB hp hv
  go_wp2_with fail
  have hb2 : Below w1.heap.size w1 (w1.alloc (.cells #[.int .i64 1, .int .i64 2] 2)) := (Below.refl _ _).alloc (Nat.le_refl _) _
  have hc2 := heap_alloc_new w1 (.cells #[.int .i64 1, .int .i64 2] 2)
  have HM2 := Lib.hid (HM.out.later hb2)
  have hw2 : WAt (fun _ => True) (w1.alloc (.cells #[.int .i64 1, .int .i64 2] 2)) ⟨0, 0, [1, 2], some ⟨w1.heap.size, 0, none⟩, 2⟩ := by
    refine ⟨by show 2 ≤ maxLen; unfold maxLen; decide, fun _ => ⟨w1.heap.size, 0, rfl, Nat.le_refl _, by rw [World.size_alloc]; omega, trivial, fun i y hy => ?_⟩⟩
    rw [cell_of_row _ _ _ _ _ _ hc2, Nat.zero_add]
    match i, hy with
    | 0, hy => simp at hy; subst hy; rfl
    | 1, hy => simp at hy; subst hy; rfl
  refine (push_in p 0 6 v [] 0 0 _ 2 [1, 2] (fun _ => True) _ HM2.out.st hw2 (by simp [used])).mono ?_
  rintro e w3 ⟨rfl, f, hf, hd, -⟩
  obtain ⟨v3, hM3, -⟩ := HM2.out.did hd
  have hlen : f.ws.length = 2 := by have := congrArg (fun t => t.2.2.length) hf; simpa [Fr.told] using this
  have hused : used ([] ++ [f]) = 4 := by rw [List.nil_append, used, used, hlen]; rfl
  have HM3 := Lib.hid (And.intro hM3 (And.intro hused hlen))
  clear hb2 hc2 hw2 hf hd hM3 hlen hused HM
  go_wp2_with fail
  have hb4 : Below w3.heap.size w3 (w3.alloc (.cells #[.int .i64 1] 2)) := (Below.refl _ _).alloc (Nat.le_refl _) _
  have HM4 := Lib.hid (HM3.out.1.later hb4)
  refine (push_out p 0 6 v3 _ 0 0 _ 1 1 _ HM4.out.st (by decide) (by have := HM3.out.2.1; omega)).mono ?_
  rintro e w5 ⟨rfl, hd⟩
  obtain ⟨v5, hM5, -⟩ := HM4.out.did hd
  have HM5 := Lib.hid hM5
  clear hb4 hd hM5
  go_wp2_with fail
  refine (push_in p 0 6 v5 _ 0 0 none 0 [] (fun _ => True) _ HM5.out.st ⟨Nat.zero_le _, fun h => absurd h (Nat.lt_irrefl _)⟩ (by have := HM3.out.2.1; simp only [List.length_nil]; omega)).mono ?_
  rintro e w6 ⟨rfl, f2, hf2, hd, -⟩
  obtain ⟨v6, hM6, -⟩ := HM5.out.did hd
  have hl2 : f2.ws.length = 0 := by have := congrArg (fun t => t.2.2.length) hf2; simpa [Fr.told] using this
  have hu6 : used ([] ++ [f] ++ [f2]) = 6 := by rw [used_append, HM3.out.2.1, hl2]; rfl
  have HM6 := Lib.hid (And.intro hM6 hu6)
  clear hd hM6 hl2 hf2 hu6
  go_wp2_with fail
  refine (used_any p 0 6 v6 _ _ HM6.out.1.st).mono ?_
  rintro e w7 ⟨rfl, rfl⟩
  rw [HM6.out.2]
  go_wp2_with fail
  refine (len_any p 0 6 v6 _ _ HM6.out.1.st).mono ?_
  rintro e w8 ⟨rfl, rfl⟩
  go_wp2_with fail
  go_ret
  exact ⟨by simp, HM6.out.1.below⟩

end Go.Proofs.Ytalfhcmccdnajaa
