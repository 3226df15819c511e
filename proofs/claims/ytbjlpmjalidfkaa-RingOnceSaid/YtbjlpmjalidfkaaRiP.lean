/- The document's ring: what a call turns; which cell is meant; one more cell; the first white one. -/
import Derived.Test.YtbjlpmjalidfkaaRiO
namespace Go.Proofs.Ytbjlpmjalidfkaa
open Go.RowKit Go.Shelf

/-- Nothing that was there has turned but one block. -/
structure One (q : Nat) (w w' : World) : Prop where
  os : w'.os = w.os
  tape : w'.tape = w.tape
  output : w'.output = w.output
  size : w.heap.size ≤ w'.heap.size
  block : ∀ k, k < w.heap.size → k ≠ q → w'.heap[k]? = w.heap[k]?
theorem One.refl (q : Nat) (w : World) : One q w w := ⟨rfl, rfl, rfl, Nat.le_refl _, fun _ _ _ => rfl⟩
theorem One.trans {q : Nat} {a b c : World} (h : One q a b) (k : One q b c) : One q a c :=
  ⟨k.os.trans h.os, k.tape.trans h.tape, k.output.trans h.output, Nat.le_trans h.size k.size, fun i hi h1 => (k.block i (Nat.lt_of_lt_of_le hi h.size) h1).trans (h.block i hi h1)⟩
theorem One.of_below {q : Nat} {w w' : World} (h : Below w.heap.size w w') : One q w w' := ⟨h.os, h.tape, h.output, h.size, fun k hk _ => h.block k hk⟩
theorem One.setQ (q i : Nat) (v : Value) (w : World) : One q w (w.setCell ⟨q, i, none⟩ v) := ⟨rfl, rfl, rfl, by simp [World.setCell], fun _ _ h => Below.heap_setCell _ _ _ _ h⟩
theorem One.below {q B : Nat} {w w' : World} (h : One q w w') (hq : B ≤ q) (hB : B ≤ w.heap.size) : Below B w w' := ⟨h.os, h.tape, h.output, h.size, fun k hk => h.block k (by omega) (by omega)⟩
theorem One.then {q : Nat} {a b c : World} (h : One q a b) (k : Below a.heap.size b c) : One q a c :=
  ⟨k.os.trans h.os, k.tape.trans h.tape, k.output.trans h.output, Nat.le_trans h.size k.size, fun i hi h1 => (k.block i hi).trans (h.block i hi h1)⟩

def Rows.set (R : Rows) (i : Nat) (l : List Int) : Rows :=
  match i with
  | 0 => { R with white := l }
  | 1 => { R with frm := l }
  | 2 => { R with grey := l }
  | _ => { R with black := l }

/-- The document's ring, its slices written out. -/
structure Op (w : World) (q n : Nat) (R : Rows) (v : Nat → Value) : Prop where
  cell : ∀ k, k < 4 → w.cell? ⟨q, k, none⟩ = some (v k)
  words : w.cell? ⟨q, 4, none⟩ = some (.int .i64 n)
  fz : ∀ j, w.frozen? ⟨q, j, none⟩ = false
  row : ∀ k, k < 4 → Row w (q + 1) w.heap.size (v k) (R.row k)
  lq : q < w.heap.size

theorem Ref.op {w : World} {q n : Nat} {R : Rows} (h : Ref w q n R) : ∃ v, Op w q n R v := by
  obtain ⟨v0, v1, v2, v3, h0, h1, h2, h3, h4, hf, hr, hq⟩ := h
  refine ⟨fun k => if k = 0 then v0 else if k = 1 then v1 else if k = 2 then v2 else v3, fun k hk => ?_, h4, hf, fun k hk => ?_, hq⟩
  · obtain rfl | rfl | rfl | rfl : k = 0 ∨ k = 1 ∨ k = 2 ∨ k = 3 := by omega
    · exact h0
    · exact h1
    · exact h2
    · exact h3
  · obtain rfl | rfl | rfl | rfl : k = 0 ∨ k = 1 ∨ k = 2 ∨ k = 3 := by omega
    · exact hr.1
    · exact hr.2.1
    · exact hr.2.2.1
    · exact hr.2.2.2
theorem Op.ref {w : World} {q n : Nat} {R : Rows} {v : Nat → Value} (h : Op w q n R v) : Ref w q n R :=
  ⟨v 0, v 1, v 2, v 3, h.cell 0 (by decide), h.cell 1 (by decide), h.cell 2 (by decide), h.cell 3 (by decide), h.words, h.fz, ⟨h.row 0 (by decide), h.row 1 (by decide), h.row 2 (by decide), h.row 3 (by decide)⟩, h.lq⟩
theorem Op.later {w w' : World} {q n : Nat} {R : Rows} {v : Nat → Value} (h : Op w q n R v) (hb : Below w.heap.size w w') : Op w' q n R v :=
  ⟨fun k hk => later' hb (h.cell k hk), later' hb h.words, fun j => (hb.frozen h.lq).trans (h.fz j), fun k hk => ((h.row k hk).below hb (Nat.le_refl _)).mono (Nat.le_refl _) hb.size, Nat.lt_of_lt_of_le h.lq hb.size⟩
/-- A row is another one now. -/
theorem Op.put {w w1 : World} {q n : Nat} {R : Rows} {v : Nat → Value} (h : Op w q n R v) (hb : Below w.heap.size w w1) (i : Nat) (hi : i < 4) (x : Value) (l : List Int) (hr : Row w1 (q + 1) w1.heap.size x l) :
    Op (w1.setCell ⟨q, i, none⟩ x) q n (R.set i l) (fun k => if k = i then x else v k) ∧ One q w (w1.setCell ⟨q, i, none⟩ x) := by
  have h1 := h.later hb
  have hs : w1.heap.size ≤ (w1.setCell ⟨q, i, none⟩ x).heap.size := by simp [World.setCell]
  have keep : ∀ {y : Value} {m : List Int}, Row w1 (q + 1) w1.heap.size y m → Row (w1.setCell ⟨q, i, none⟩ x) (q + 1) (w1.setCell ⟨q, i, none⟩ x).heap.size y m := fun hy =>
    (hy.same fun b o g1 _ g3 _ => (Below.heap_setCell _ _ _ _ (by simp only; omega)).trans g3).mono (Nat.le_refl _) hs
  refine ⟨⟨fun k hk => ?_, (World.cell?_setCell_other _ _ _ _ (by simp)).trans h1.words, fun j => (World.frozen?_setCell _ _ _ _).trans (h1.fz j), fun k hk => ?_, Nat.lt_of_lt_of_le h1.lq hs⟩, (One.of_below hb).trans (One.setQ q i x w1)⟩
  · by_cases e : k = i
    · subst e
      rw [if_pos rfl]
      exact World.cell?_setCell_same _ _ _ (h1.cell k hk)
    · rw [if_neg e]
      exact (World.cell?_setCell_other _ _ _ _ (by simp)).trans (h1.cell k hk)
  · by_cases e : k = i
    · subst e
      rw [if_pos rfl]
      have : (R.set k l).row k = l := by
        obtain rfl | rfl | rfl | rfl : k = 0 ∨ k = 1 ∨ k = 2 ∨ k = 3 := by omega
        all_goals rfl
      rw [this]
      exact keep hr
    · rw [if_neg e]
      have : (R.set i l).row k = R.row k := by
        obtain rfl | rfl | rfl | rfl : k = 0 ∨ k = 1 ∨ k = 2 ∨ k = 3 := by omega
        all_goals obtain rfl | rfl | rfl | rfl : i = 0 ∨ i = 1 ∨ i = 2 ∨ i = 3 := by omega
        all_goals first | rfl | exact absurd rfl e
      rw [this]
      exact keep (h1.row k hk)

def shadedAt (N : Int) (R : Rows) : Int := if R.frm = [] then -1 else (R.frm[(N.tmod R.frm.length).natAbs]?).getD 0
theorem shaded_mem {N : Int} {R : Rows} (h : R.frm ≠ []) : shadedAt N R ∈ R.frm := by
  have h0 : 0 < R.frm.length := List.length_pos_iff.2 h
  have h1 : (N.tmod R.frm.length).natAbs < R.frm.length := by
    rw [Int.natAbs_tmod]
    exact Nat.mod_lt _ h0
  rw [shadedAt, if_neg h, List.getElem?_eq_getElem h1]
  exact List.getElem_mem h1

set_option maxHeartbeats 1000000 in
theorem shaded_any (w : World) (q n : Nat) (R : Rows) (hR : Ref w q n R) (N : Int) (hs : R.all.length ≤ 1000) :
    Calls Try.prog 43 #[.pointer (some ⟨q, 0, none⟩), .int .i64 N] w fun e w' => e = .returned (.int .i64 (shadedAt N R)) ∧ w' = w := by
  obtain ⟨v, hO⟩ := hR.op
  have hf : R.frm.length ≤ 1000 := (all_le hs).2.1
  obtain ⟨ao, sp, e1, hc⟩ := hO.row 1 (by decide)
  have c1 := hO.cell 1 (by decide)
  rw [e1] at c1
  change w.cell? ⟨q, 1, none⟩ = some (.slice ao R.frm.length (R.frm.length + sp)) at c1
  replace hc : 0 < R.frm.length → _ := hc
  obtain ⟨X, hX⟩ : ∃ X, shadedAt N R = X := ⟨_, rfl⟩
  rw [hX]
  by_cases g : R.frm = []
  · rw [shadedAt, if_pos g] at hX
    subst hX
    rw [g] at c1
    clear hO hc e1
    go_enter Try.func43, Try.ntmps43
    go_wp2_with fail
    go_ret
    exact ⟨rfl, rfl⟩
  · have h0 : 0 < R.frm.length := List.length_pos_iff.2 g
    have h1 : (N.tmod R.frm.length).natAbs < R.frm.length := by
      rw [Int.natAbs_tmod]
      exact Nat.mod_lt _ h0
    rw [shadedAt, if_neg g, List.getElem?_eq_getElem h1] at hX
    obtain ⟨b, rfl, _, _, hx⟩ := hc h0
    have cx := hx _ X (by rw [← hX]; exact List.getElem?_eq_getElem h1)
    clear hO hX hR e1 hx hc
    generalize R.frm.length = m at *
    have hm0 : ((m : Int) == 0) = false := by simp; omega
    have hm1 : (0 : Int) < (m : Int) := by omega
    by_cases hs : N.tmod m < 0
    · rw [show (N.tmod m).natAbs = (-N.tmod m).toNat by omega] at cx
      have hs1 : -N.tmod m < (m : Int) := by omega
      have hs2 : 0 ≤ -N.tmod m := by omega
      go_enter Try.func43, Try.ntmps43
      go_wp2_with fail
      go_ret
      exact ⟨rfl, rfl⟩
    · rw [show (N.tmod m).natAbs = (N.tmod m).toNat by omega] at cx
      have hs1 : N.tmod m < (m : Int) := by omega
      have hs2 : 0 ≤ N.tmod m := by omega
      go_enter Try.func43, Try.ntmps43
      go_wp2_with fail
      go_ret
      exact ⟨rfl, rfl⟩

end Go.Proofs.Ytbjlpmjalidfkaa
