/- The document's stack as it lies; its Used, its Left. -/
import Derived.Test.YtalfhcmccdnajaaSkP
namespace Go.Proofs.Ytalfhcmccdnajaa
open Go.RowKit Go.Sort

/-- Which are to be scanned: the lowest ones. -/
def todo (n left : Nat) : List Bool := (List.range n).map fun i => decide (i < left)
theorem todo_length (n left : Nat) : (todo n left).length = n := by simp [todo]
theorem todo_get {n left j : Nat} (h : j < n) : (todo n left)[j]? = some (decide (j < left)) := by simp [todo, h]
/-- A list of signs, in a block of its own. -/
def BsAt (W : World) (v : Value) (bs : List Bool) : Prop :=
  (v = .slice none 0 0 ∧ bs = []) ∨ ∃ g cap cur, v = .slice (some ⟨g, 0, none⟩) bs.length cap ∧ W.heap[g]? = some (.cells cur 4 (0, 0)) ∧ bs.length ≤ cap ∧ cap ≤ maxLen ∧ cap = cur.size ∧ cur.toList.take bs.length = bs.map Value.bool
theorem BsAt.lt {W : World} {v : Value} {bs : List Bool} (h : BsAt W v bs) : ∀ g, v.ownBlock = some g → g < W.heap.size := by
  rcases h with ⟨rfl, rfl⟩ | ⟨g, cap, cur, rfl, hg, -⟩
  · intro g hg; cases hg
  · intro g' hg'; cases hg'; exact lt_of_heap hg
theorem BsAt.move {W W' : World} {v : Value} {bs : List Bool} (h : BsAt W v bs) (hb : ∀ g, v.ownBlock = some g → W'.heap[g]? = W.heap[g]?) : BsAt W' v bs := by
  rcases h with ⟨rfl, rfl⟩ | ⟨g, cap, cur, rfl, hg, h1⟩
  · exact Or.inl ⟨rfl, rfl⟩
  · exact Or.inr ⟨g, cap, cur, rfl, (hb g rfl).trans hg, h1⟩
theorem BsAt.sl {W : World} {v : Value} {bs : List Bool} (h : BsAt W v bs) : ∃ ao cap, v = .slice ao bs.length cap := by
  rcases h with ⟨rfl, rfl⟩ | ⟨g, cap, cur, rfl, -⟩
  · exact ⟨_, _, rfl⟩
  · exact ⟨_, _, rfl⟩
theorem BsAt.cell {W : World} {v : Value} {bs : List Bool} (h : BsAt W v bs) {j : Nat} {b : Bool} (hb : bs[j]? = some b) : ∃ g cap, v = .slice (some ⟨g, 0, none⟩) bs.length cap ∧ bs.length ≤ cap ∧ g < W.heap.size ∧ W.cell? ⟨g, j, none⟩ = some (.bool b) ∧ W.frozen? ⟨g, j, none⟩ = false := by
  have hj : j < bs.length := (List.getElem?_eq_some_iff.1 hb).1
  rcases h with ⟨rfl, rfl⟩ | ⟨g, cap, cur, rfl, hg, h1, h2, h3, h4⟩
  · simp at hb
  · refine ⟨g, cap, rfl, h1, lt_of_heap hg, ?_, frozen_of_row _ _ _ _ _ hg⟩
    rw [cell_of_row W g j cur _ (0, 0) hg]
    have h5 : (cur.toList.take bs.length)[j]? = some (Value.bool b) := by rw [h4, List.getElem?_map, hb]; rfl
    rw [List.getElem?_take, if_pos hj] at h5
    simpa using h5

/-- THE DOCUMENT's STACK AS IT LIES. -/
structure Rf (W : World) (q : Nat) (vL vT : Value) (room : Int) (L : List Fr) (left : Nat) : Prop where
  c0 : W.cell? ⟨q, 0, none⟩ = some vL
  c1 : W.cell? ⟨q, 1, none⟩ = some vT
  c2 : W.cell? ⟨q, 2, none⟩ = some (.int .i64 room)
  z0 : W.frozen? ⟨q, 0, none⟩ = false
  z1 : W.frozen? ⟨q, 1, none⟩ = false
  fs : FsAt W vL L
  bs : BsAt W vT (todo L.length left)
  nl : vL.ownBlock ≠ some q
  nt : vT.ownBlock ≠ some q
  lt : vL.ownBlock ≠ none → vL.ownBlock ≠ vT.ownBlock
section
variable {W W' : World} {q left : Nat} {vL vT : Value} {room : Int} {L : List Fr}
theorem Rf.lq (h : Rf W q vL vT room L left) : q < W.heap.size := World.block_lt_of_cell? _ _ h.c0
theorem Rf.later (h : Rf W q vL vT room L left) (hb : Below W.heap.size W W') : Rf W' q vL vT room L left :=
  have hq := hb.block q h.lq
  ⟨(World.cell?_of_block (w := W) hq).trans h.c0, (World.cell?_of_block (w := W) hq).trans h.c1, (World.cell?_of_block (w := W) hq).trans h.c2, (World.frozen?_of_block (w := W) hq).trans h.z0, (World.frozen?_of_block (w := W) hq).trans h.z1, h.fs.move (fun g hg => hb.block g (h.fs.lt g hg)), h.bs.move (fun g hg => hb.block g (h.bs.lt g hg)), h.nl, h.nt, h.lt⟩
end

theorem used_take {L : List Fr} {i : Nat} {f : Fr} (h : L[i]? = some f) : used (L.take (i + 1)) = used (L.take i) + ((f.ws.length : Int) + 2) := by
  rw [show L.take (i + 1) = L.take i ++ [f] by rw [List.take_add_one, h]; rfl, used_append]
theorem used_take_le (L : List Fr) (i : Nat) : used (L.take i) ≤ used L := by
  induction L generalizing i with
  | nil => simp
  | cons x r ih =>
    cases i with
    | zero => have := used_len (x :: r); simp [used] at this ⊢; omega
    | succ i => simp only [List.take_succ_cons, used]; have := ih i; omega

set_option maxHeartbeats 4000000 in
theorem rused_any (q left : Nat) (vL vT : Value) (room : Int) (L : List Fr) (w : World) (h : Rf w q vL vT room L left) (hu : used L ≤ 4096) :
    Calls Try.prog 15 #[.pointer (some ⟨q, 0, none⟩)] w fun e w' => e = .returned (.int .i64 (used L)) ∧ w' = w := by
  have c0 := h.c0
  obtain ⟨ao, cap, hv⟩ := h.fs.sl
  have hl := used_len L
  have hsm : L.length ≤ 2048 := by omega
  have H := Lib.hid (And.intro h.fs (And.intro hv hu))
  rw [hv] at c0
  clear h hv hl hu
  go_enter Try.func15, Try.ntmps15
  go_wp2_with fail
  go_loopw [3, 4] (fun s3 s4 wr => ∃ i : Nat, i ≤ L.length ∧ s3 = .int .i64 (used (L.take i)) ∧ s4 = .int .i64 i ∧ wr = w) (fun _ s4 _ => L.length - (RowKit.intOf s4).toNat)
  case atStart => exact ⟨0, Nat.zero_le _, rfl, rfl, rfl⟩
  case round =>
    obtain ⟨i, hi, rfl, rfl, rfl⟩ := hrel
    by_cases hlt : i < L.length
    · obtain ⟨f, hf⟩ : ∃ f, L[i]? = some f := ⟨_, List.getElem?_eq_getElem hlt⟩
      obtain ⟨g, cap', hv', -, -, -, -, -, k2⟩ := H.out.1.cell hf
      have hv2 := H.out.2.1
      rw [hv'] at hv2
      simp only [Value.slice.injEq, true_and] at hv2
      obtain ⟨rfl, -⟩ := hv2
      have hstep := used_take hf
      have h1 := used_take_le L (i + 1)
      have h0 := used_len (L.take i)
      have h2 := H.out.2.2
      obtain ⟨U, hU⟩ : ∃ U, U = used (L.take i) := ⟨_, rfl⟩
      rw [← hU] at hstep h0 ⊢
      have hw1 : IntKind.i64.wrap (U + (f.ws.length : Int)) = U + (f.ws.length : Int) := by rw [IntKind.wrap_i64]; omega
      have hw2 : IntKind.i64.wrap (U + (f.ws.length : Int) + 2) = U + (f.ws.length : Int) + 2 := by rw [IntKind.wrap_i64]; omega
      have HS := Lib.hid hstep
      clear hU hv' hstep h1 h0 h2
      go_wp2_with fail
      go_roundw
      case rel => first | exact ⟨i + 1, by omega, by rw [HS.out]; congr 1; omega, by go_num, rfl⟩ | exact ⟨i + 1, by omega, by rw [HS.out]; congr 1; omega, by go_num, trivial⟩
      case measure => simp [RowKit.intOf]; omega
    · obtain rfl : i = L.length := by omega
      rw [List.take_of_length_le (Nat.le_refl _)]
      go_wp2_with fail
      go_ret
      exact ⟨rfl, rfl⟩

end Go.Proofs.Ytalfhcmccdnajaa
