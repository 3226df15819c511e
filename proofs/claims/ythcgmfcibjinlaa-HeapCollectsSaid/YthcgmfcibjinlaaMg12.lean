import Derived.Deep.QuietTactic
import Derived.BigQuiet
import Derived.StillTailTactics
import Derived.Test.YthcgmfcibjinlaaMg9
import Derived.Test.YthcgmfcibjinlaaMg11
/- The phases of a collected heap. -/
namespace Go.Proofs.Ythcgmfcibjinlaa
open Go.RowKit

section
variable {x : HSpot} {D D' : Nat → Int} {R R' : Nat → Rows} {top : Int} {L : List (Int × Int)} {P : List It} {M : Int → Int} {kp : Nat → Bool}

/-- While objects are made: all cells are black. -/
structure Mkg (x : HSpot) (D : Nat → Int) (R : Nat → Rows) (top : Int) (L : List (Int × Int)) (P : List It) (i : Nat) : Prop where
  kept : Kept x D R top L P (fun _ => 0)
  row : ∀ j, j ≤ x.k → (R j).white = [] ∧ (R j).frm = [] ∧ (R j).grey = []
  nd : (P.map It.p).Nodup
  len : ∀ j, j ≤ x.k → (R j).all.length ≤ i

theorem Mkg.succ {i : Nat} (h : Mkg x D R top L P i) : Mkg x D R top L P (i + 1) := ⟨h.kept, h.row, h.nd, fun j hj => Nat.le_succ_of_le (h.len j hj)⟩
theorem Mkg.none (h1 : 1 ≤ x.lim) (h2 : x.lim ≤ x.n) (h3 : x.n ≤ 65536) (hs : ∀ i, i < x.k → 1 ≤ x.sz i ∧ x.sz i ≤ 24) : Mkg x (fun _ => 0) (fun _ => none4) 1 L [] 0 := by
  refine ⟨⟨inv_new h1 h2 h3 hs, ?_, ?_, ?_, ?_⟩, fun j _ => ⟨rfl, rfl, rfl⟩, by simp, fun j _ => Nat.le_refl _⟩
  · intro t ht; cases ht
  · intro t ht; cases ht
  · intro t ht; cases ht
  · intro j _ a ha; cases ha

theorem fresh_row {size at' top' : Int} {N : List (Int × Int)} (hw : ∀ j, j ≤ x.k → (R j).white = [] ∧ (R j).frm = [] ∧ (R j).grey = []) (hA : AllocP x R top L size at' R' top' N) : ∀ j, j ≤ x.k → (R' j).white = [] ∧ (R' j).frm = [] ∧ (R' j).grey = [] := by
  have key : ∀ i, i ≤ x.k → ∀ j, j ≤ x.k → (put1 R i ((R i).grow at').alloc j).white = [] ∧ (put1 R i ((R i).grow at').alloc j).frm = [] ∧ (put1 R i ((R i).grow at').alloc j).grey = [] := fun i hi j hj => by
    unfold put1
    by_cases e : j = i
    · subst e
      obtain ⟨h1, h2, h3⟩ := hw j hj
      rw [if_pos rfl]
      exact ⟨by simp [Rows.grow, Rows.alloc, h1], by simp [Rows.grow, Rows.alloc, h2], by simp [Rows.grow, Rows.alloc, h3]⟩
    · rw [if_neg e]
      exact hw j hj
  cases hA with
  | white i hC hi l hw2 hR ht hM =>
    rw [(hw i (by omega)).1] at hw2
    cases hw2
  | fresh i hC hi hw2 hr ha hR ht hM =>
    rw [hR]
    exact key i (by omega)
  | big hC he ha hR ht hM =>
    rw [hR]
    exact key x.k (Nat.le_refl _)

theorem Mkg.more {size at' aux top' : Int} {N : List (Int × Int)} {i : Nat} (h : Mkg x D R top L P i) (hi : i < 900) (hG : Ex.Good x.lim (x.lim + (x.n - x.lim : Int)) L) (hA : AllocP x R top L size at' R' top' N) (hp : Ce.pe 7 size aux 0 = 0) (hW : Wrote x R' D D' at' size (Ce.pw 7 size aux 0))
    (hnd : ∀ j, j ≤ x.k → (R j).all.Nodup) :
    Head D' at' 7 size aux 0 ∧ Obj1 x R' at' size ∧
      ∀ E : Nat → Int, (∀ m : Nat, ¬ (at' + 3 ≤ (m : Int) ∧ (m : Int) < at' + size + 3) → E m = D' m) → (0 < size → E (at' + 3 + (size - 1)).toNat = 1000 + aux) → Mkg x E R' top' N (P ++ [⟨at', size, aux⟩]) (i + 1) := by
  obtain ⟨h1, h2, h3, h4⟩ := h.kept.more hG hA hp hW (fun j hj => by have := h.len j hj; omega) (fun j hj => (h.row j hj).1) hnd rfl
  refine ⟨h2, h3, fun E e1 e2 => ⟨h4 E e1 e2, fresh_row h.row hA, ?_, ?_⟩⟩
  · rw [List.map_append, List.nodup_append]
    refine ⟨h.nd, by simp, fun a ha b hb => ?_⟩
    obtain ⟨t, ht, rfl⟩ := List.mem_map.1 ha
    simp only [List.map_cons, List.map_nil, List.mem_singleton] at hb
    subst hb
    exact h1 t ht
  · obtain ⟨i', hi', -, -, hne, -, hln⟩ := hA.cells
    intro j hj
    by_cases e : j = i'
    · subst e
      have := h.len j hj
      omega
    · rw [hne j e]
      exact Nat.le_succ_of_le (h.len j hj)

/-- While they are shaded. -/
structure Shd (x : HSpot) (D : Nat → Int) (R : Nat → Rows) (top : Int) (L : List (Int × Int)) (P : List It) (M : Int → Int) (kp : Nat → Bool) (i cnt : Nat) : Prop where
  kept : Kept x D R top L P M
  nd : (P.map It.p).Nodup
  wb : ∀ j, j ≤ x.k → (R j).white = [] ∧ (R j).black = []
  mark : ∀ q (hq : q < P.length), M (P[q]).p = if q < i ∧ kp q = true then 1 else 0
  frm : ∀ t, t ∈ P → M t.p = 0 → ∃ j, Cls x.sz x.k t.s j ∧ t.p ∈ (R j).frm
  grey : tot Rows.grey R (x.k + 1) = cnt
  le : cnt ≤ i

theorem mix_at {F : Rows → Rows} {k j : Nat} (hj : j ≤ k) : mix F R (k + 1) j = F (R j) := by
  unfold mix
  rw [if_pos (by omega)]

theorem Mkg.begun {i : Nat} (h : Mkg x D R top L P i) (kp : Nat → Bool) : Shd x D (mix Rows.begin R (x.k + 1)) top L P (fun _ => 0) kp 0 0 := by
  have hall : ∀ j, j ≤ x.k → (mix Rows.begin R (x.k + 1) j).all = (R j).all := fun j hj => by
    obtain ⟨h1, h2, h3⟩ := h.row j hj
    rw [mix_at hj]
    simp [Rows.all, Rows.begin, h2, h3]
  refine ⟨h.kept.rows (fun j hj a => by rw [hall j hj]) (fun j hj => by rw [hall j hj]), h.nd, fun j hj => ?_, fun q hq => by simp, fun t ht _ => ?_, tot_nil fun j hj => ?_, Nat.le_refl _⟩
  · rw [mix_at hj]
    exact ⟨(h.row j hj).1, rfl⟩
  · obtain ⟨j, hC, hm⟩ := h.kept.cls t ht
    obtain ⟨h1, h2, h3⟩ := h.row j hC.le
    refine ⟨j, hC, ?_⟩
    rw [mix_at hC.le]
    simpa [Rows.all, Rows.begin, h1, h2, h3] using hm
  · rw [mix_at (by omega)]
    exact (h.row j (by omega)).2.2

theorem Shd.skip {i cnt : Nat} (h : Shd x D R top L P M kp i cnt) (hk : kp i = false) : Shd x D R top L P M kp (i + 1) cnt := by
  refine ⟨h.kept, h.nd, h.wb, fun q hq => ?_, h.frm, h.grey, by have := h.le; omega⟩
  rw [h.mark q hq]
  by_cases e : q = i
  · subst e
    simp [hk]
  · have : (q < i + 1) ↔ (q < i) := by omega
    simp only [this]

theorem Shd.ready {i cnt : Nat} (h : Shd x D R top L P M kp i cnt) (hi : i < P.length) : ∃ j, Cls x.sz x.k (P[i]).s j ∧ (P[i]).p ∈ (R j).frm ∧ Head D (P[i]).p 7 (P[i]).s (P[i]).n 0 := by
  have hm : M (P[i]).p = 0 := by rw [h.mark i hi]; simp
  obtain ⟨j, hC, hf⟩ := h.frm _ (List.getElem_mem hi) hm
  have := h.kept.hd _ (List.getElem_mem hi)
  rw [hm] at this
  exact ⟨j, hC, hf, this⟩

theorem It.ne {q r : Nat} (nd : (P.map It.p).Nodup) (hq : q < P.length) (hr : r < P.length) (h : (P[q]).p = (P[r]).p) : q = r := by
  have h1 : q < (P.map It.p).length := by simpa using hq
  have h2 : r < (P.map It.p).length := by simpa using hr
  rcases Nat.lt_trichotomy q r with e | e | e
  · exact absurd (by simpa using h) ((List.pairwise_iff_getElem.1 nd) q r h1 h2 e)
  · exact e
  · exact absurd (by simpa using h.symm) ((List.pairwise_iff_getElem.1 nd) r q h2 h1 e)

theorem Shd.step {i cnt c : Nat} (h : Shd x D R top L P M kp i cnt) (hi : i < P.length) (hk : kp i = true) (hC : Cls x.sz x.k (P[i]).s c) (hf : (P[i]).p ∈ (R c).frm) (hS : SameBut (R c) D D') :
    Shd x (putW D' (P[i]).p (Ce.pw 7 (P[i]).s (P[i]).n 1)) (fun j => if j = c then (R c).shade (P[i]).p else R j) top L P (fun a => if a = (P[i]).p then 1 else M a) kp (i + 1) (cnt + 1) := by
  have ht := List.getElem_mem hi
  refine ⟨h.kept.shade ht hC hf hS, h.nd, fun j hj => ?_, fun q hq => ?_, fun t htP hM => ?_, ?_, by have := h.le; omega⟩
  · by_cases e : j = c
    · subst e
      simp only [if_pos]
      exact h.wb j hj
    · simp only [if_neg e]
      exact h.wb j hj
  · by_cases e : q = i
    · subst e
      simp [hk]
    · have hne : (P[q]).p ≠ (P[i]).p := fun e2 => e (It.ne h.nd hq hi e2)
      simp only [if_neg hne]
      rw [h.mark q hq]
      have : (q < i + 1) ↔ (q < i) := by omega
      simp only [this]
  · by_cases e : t.p = (P[i]).p
    · simp only [if_pos e] at hM
      omega
    · simp only [if_neg e] at hM
      obtain ⟨j, hCj, hfj⟩ := h.frm t htP hM
      refine ⟨j, hCj, ?_⟩
      by_cases e2 : j = c
      · subst e2
        simp only [if_pos]
        exact (List.mem_erase_of_ne e).2 hfj
      · simp only [if_neg e2]
        exact hfj
  · have := tot_put (f := Rows.grey) (R := R) (R' := fun j => if j = c then (R c).shade (P[i]).p else R j) (i := c) (k := x.k + 1) (by have := hC.le; omega) (fun j hj => if_neg hj)
    have e2 : ((fun j => if j = c then (R c).shade (P[i]).p else R j) c).grey.length = (R c).grey.length + 1 := by simp [Rows.shade]
    rw [e2, h.grey] at this
    omega

/-- While they are done. -/
structure Dng (x : HSpot) (D : Nat → Int) (R : Nat → Rows) (top : Int) (L : List (Int × Int)) (P : List It) (M : Int → Int) (cnt r : Nat) : Prop where
  kept : Kept x D R top L P M
  sum : tot Rows.grey R (x.k + 1) + tot Rows.black R (x.k + 1) = cnt
  low : tot Rows.grey R (x.k + 1) ≤ r

theorem Shd.doing {i cnt : Nat} (h : Shd x D R top L P M kp i cnt) : Dng x D R top L P M cnt i :=
  ⟨h.kept, by rw [h.grey, tot_nil (f := Rows.black) fun j hj => (h.wb j (by omega)).2]; rfl, by rw [h.grey]; exact h.le⟩

theorem first_grey (R : Nat → Rows) (k : Nat) : ∃ i, i ≤ k ∧ (∀ j, j < i → (R j).grey = []) ∧ (i < k → ∃ l c, (R i).grey = l ++ [c]) := by
  induction k with
  | zero => exact ⟨0, Nat.le_refl _, fun j hj => by omega, fun h => by omega⟩
  | succ k ih =>
    obtain ⟨i, h1, h2, h3⟩ := ih
    by_cases e : i < k
    · exact ⟨i, by omega, h2, fun _ => h3 e⟩
    · obtain rfl : i = k := by omega
      by_cases g : (R i).grey = []
      · refine ⟨i + 1, Nat.le_refl _, fun j hj => ?_, fun h => by omega⟩
        by_cases e2 : j = i
        · subst e2; exact g
        · exact h2 j (by omega)
      · exact ⟨i, by omega, h2, fun _ => ⟨_, _, (List.dropLast_concat_getLast g).symm⟩⟩

theorem Dng.step {cnt r i : Nat} {l : List Int} {c : Int} (h : Dng x D R top L P M cnt r) (hi : i ≤ x.k) (hg : (R i).grey = l ++ [c]) : Dng x D (fun j => if j = i then (R i).done else R j) top L P M cnt (r - 1) := by
  have eg : (R i).done.grey = l := by simp [Rows.done, hg]
  have eb : (R i).done.black = c :: (R i).black := by simp [Rows.done, hg]
  have g1 := tot_put (f := Rows.grey) (R := R) (R' := fun j => if j = i then (R i).done else R j) (i := i) (k := x.k + 1) (by omega) (fun j hj => if_neg hj)
  have g2 := tot_put (f := Rows.black) (R := R) (R' := fun j => if j = i then (R i).done else R j) (i := i) (k := x.k + 1) (by omega) (fun j hj => if_neg hj)
  simp only [if_pos, eg, eb] at g1 g2
  rw [hg] at g1
  simp only [List.length_append, List.length_cons, List.length_nil] at g1 g2
  have s := h.sum
  have lo := h.low
  have hall : ∀ j, (if j = i then (R i).done else R j).all = (R j).all := fun j => by
    by_cases e : j = i
    · subst e
      rw [if_pos rfl]
      unfold Rows.all
      rw [eg, eb, hg]
      simp [Rows.done]
    · rw [if_neg e]
  exact ⟨h.kept.rows (fun j hj a => by rw [hall j]) (fun j hj => by rw [hall j]), by omega, by omega⟩
theorem Dng.rest {cnt r : Nat} (h : Dng x D R top L P M cnt r) (hg : ∀ j, j < x.k + 1 → (R j).grey = []) : Dng x D R top L P M cnt (r - 1) :=
  ⟨h.kept, h.sum, by rw [tot_nil (f := Rows.grey) hg]; omega⟩

theorem Dng.ended {cnt : Nat} (h : Dng x D R top L P M cnt 0) : Kept x D (mix Rows.fin R (x.k + 1)) top L P M ∧ tot Rows.black (mix Rows.fin R (x.k + 1)) (x.k + 1) = cnt := by
  have hg := tot_zero (f := Rows.grey) (R := R) (k := x.k + 1) (by have := h.low; omega)
  have hall : ∀ j, j ≤ x.k → (mix Rows.fin R (x.k + 1) j).all = (R j).all := fun j hj => by
    rw [mix_at hj]
    simp [Rows.all, Rows.fin]
  refine ⟨h.kept.rows (fun j hj a => by rw [hall j hj]) (fun j hj => by rw [hall j hj]), ?_⟩
  have s := h.sum
  have lo := h.low
  rw [tot_same (f := Rows.black) (g := Rows.black) (R := R) fun j hj => by rw [mix_at (by omega)]; rfl]
  omega
end

end Go.Proofs.Ythcgmfcibjinlaa

/- Two lists that are gathered beside a heap. -/
namespace Go.Proofs.Ythcgmfcibjinlaa
open Go.RowKit

/-- The bools of an argument. -/
def Bools (w : World) (a0 : Option Addr) (len : Nat) (v : Nat → Bool) : Prop :=
  0 < len → ∃ b off, a0 = some ⟨b, off, none⟩ ∧ b < w.heap.size ∧ ∀ k, k < len → w.cell? ⟨b, off + k, none⟩ = some (.bool (v k))
theorem Bools.below {w w' : World} {a0 : Option Addr} {len : Nat} {v : Nat → Bool} (h : Bools w a0 len v) (hb : Below w.heap.size w w') : Bools w' a0 len v := fun h0 => by
  obtain ⟨b, off, e, hl, hc⟩ := h h0
  exact ⟨b, off, e, Nat.lt_of_lt_of_le hl hb.size, fun k hk => later' hb (hc k hk)⟩

theorem Sizes.turn {T T' : Nat → Nat} {w2 w3 W : World} {a : Option Addr} {n : Nat} {v : Nat → Int} (h : Sizes w2 a n v) (hb : Below w2.heap.size w2 w3) (hT : ∀ b, b < w2.heap.size → T b = 1000) (t : HTurn T T' w3 W) : Sizes W a n v := fun h0 => by
  obtain ⟨b, off, e, hl, hc⟩ := h h0
  exact ⟨b, off, e, Nat.lt_of_lt_of_le hl (Nat.le_trans hb.size t.size), fun k hk => t.cell (later' hb (hc k hk)) (hT b hl)⟩
theorem Bools.turn {T T' : Nat → Nat} {w2 w3 W : World} {a : Option Addr} {n : Nat} {v : Nat → Bool} (h : Bools w2 a n v) (hb : Below w2.heap.size w2 w3) (hT : ∀ b, b < w2.heap.size → T b = 1000) (t : HTurn T T' w3 W) : Bools W a n v := fun h0 => by
  obtain ⟨b, off, e, hl, hc⟩ := h h0
  exact ⟨b, off, e, Nat.lt_of_lt_of_le hl (Nat.le_trans hb.size t.size), fun k hk => t.cell (later' hb (hc k hk)) (hT b hl)⟩

theorem Try.info_rcell : (Try.prog.info? 60).map (fun i => (i.zero, i.size, i.bytes)) = some (some (.agg #[.int .i64 0, .int .i64 0, .int .i64 0, .int .i64 0]), 4, 32) := by kernel_rfl

theorem HLies.but {x : HSpot} {T : Nat → Nat} {D : Nat → Int} {R : Nat → Rows} {top par : Int} {L : List (Int × Int)} {w w' : World} (h : HLies x T D R top par L w) (hk : ∀ b, b < w.heap.size → T b ≠ 1000 → w'.heap[b]? = w.heap[b]?) (hs : w.heap.size ≤ w'.heap.size) : HLies x T D R top par L w' := by
  obtain ⟨u, hu⟩ := h.at
  obtain ⟨cb, cap, g, ht, -⟩ := h.rest
  exact h.anew hs (fun b hl hb => hk b hl (by have := h.k6; omega)) ⟨u, hu.move (hk _ hu.lp (by rw [ht.p]; omega)) (hk _ hu.ld (by rw [ht.d]; omega)) hs⟩ (fun _ _ _ _ => rfl)
theorem HLies.grown {x : HSpot} {T : Nat → Nat} {D : Nat → Int} {R : Nat → Rows} {top par : Int} {L : List (Int × Int)} {w w' : World} {row : Option Nat} (h : HLies x T D R top par L w) (hg : w.grownBy w' row) (hr : ∀ g, row = some g → T g = 1000) : HLies x T D R top par L w' :=
  h.but (fun b hl hb => hg.block b hl fun e => hb (hr b e.symm)) hg.size
theorem HTurn.grown {T T' : Nat → Nat} {a b c : World} {row : Option Nat} (h : HTurn T T' a b) (hg : b.grownBy c row) (hr : ∀ g, row = some g → a.heap.size ≤ g) : HTurn T T' a c :=
  ⟨hg.os.trans h.os, hg.tape.trans h.tape, hg.output.trans h.output, Nat.le_trans h.size hg.size, fun q hq ht => by
    obtain ⟨h1, h2⟩ := h.block q hq ht
    exact ⟨h1, (hg.block q (Nat.lt_of_lt_of_le hq h.size) (fun e => by have := hr q e.symm; omega)).trans h2⟩⟩

/-- What the second list holds. -/
def flatW : List It → List Value
  | [] => []
  | t :: P => [.int .i64 7, .int .i64 t.s, .int .i64 t.n, .int .i64 0] ++ flatW P
theorem flatW_append (P Q : List It) : flatW (P ++ Q) = flatW P ++ flatW Q := by
  induction P with
  | nil => rfl
  | cons t P ih => simp only [List.cons_append, flatW, ih, List.append_assoc]
theorem flatW_get {P : List It} : ∀ {q : Nat} (hq : q < P.length), (flatW P)[q * 4 + 1]? = some (.int .i64 (P[q]).s) ∧ (flatW P)[q * 4 + 2]? = some (.int .i64 (P[q]).n) := by
  induction P with
  | nil => intro q hq; cases hq
  | cons t P ih =>
    intro q hq
    cases q with
    | zero => exact ⟨rfl, rfl⟩
    | succ q =>
      obtain ⟨h1, h2⟩ := ih (q := q) (by simpa using hq)
      refine ⟨?_, ?_⟩
      · rw [show (q + 1) * 4 + 1 = (q * 4 + 1) + 1 + 1 + 1 + 1 by omega]
        simpa [flatW] using h1
      · rw [show (q + 1) * 4 + 2 = (q * 4 + 2) + 1 + 1 + 1 + 1 by omega]
        simpa [flatW] using h2

/-- Both lists: the places, and what the objects were. -/
structure Lists (base : Nat) (T : Nat → Nat) (P : List It) (v9 v10 : Value) (W : World) : Prop where
  own9 : W.ownsRow base 3 1 v9 P.length (P.map fun t => .int .i64 t.p)
  own10 : W.ownsRow base 60 4 v10 P.length (flatW P)
  tag9 : ∀ g, v9.ownBlock = some g → T g = 1000
  tag10 : ∀ g, v10.ownBlock = some g → T g = 1000

section
variable {base : Nat} {T T' : Nat → Nat} {P : List It} {v9 v10 : Value} {W W' : World}
theorem own_same {base : Nat} {e : TypeId} {size : Nat} {v : Value} {n : Nat} {xs : List Value} {W W' : World} (h : W.ownsRow base e size v n xs) (hk : ∀ g, v.ownBlock = some g → W'.heap[g]? = W.heap[g]?) : W'.ownsRow base e size v n xs := by
  refine ⟨h.1, ?_⟩
  rcases h.2 with e | ⟨g, cap, cur, rfl, hg, hb, hr⟩
  · exact Or.inl e
  · exact Or.inr ⟨g, cap, cur, rfl, hg, (hk g rfl).trans hb, hr⟩
theorem Lists.turn (h : Lists base T P v9 v10 W) (t : HTurn T T' W W') : Lists base T' P v9 v10 W' :=
  ⟨own_same h.own9 fun g e => (t.block g (h.own9.lt g e).2 (h.tag9 g e)).2, own_same h.own10 fun g e => (t.block g (h.own10.lt g e).2 (h.tag10 g e)).2,
    fun g e => (t.block g (h.own9.lt g e).2 (h.tag9 g e)).1, fun g e => (t.block g (h.own10.lt g e).2 (h.tag10 g e)).1⟩
theorem own_apart {v v' : Value} {n n' : Nat} {xs xs' : List Value} {base base' : Nat} {W : World} (h9 : W.ownsRow base 3 1 v n xs) (h10 : W.ownsRow base' 60 4 v' n' xs') : v.ownBlock = none ∨ v.ownBlock ≠ v'.ownBlock := by
  rcases h9.2 with ⟨e, _⟩ | ⟨g, cap, cur, e, hg, hb, hr⟩
  · subst e; exact Or.inl rfl
  · rcases h10.2 with ⟨e', _⟩ | ⟨g', cap', cur', e', hg', hb', hr'⟩
    · subst e e'
      exact Or.inr (by simp [Value.ownBlock])
    · subst e e'
      refine Or.inr fun e => ?_
      simp only [Value.ownBlock, Option.some.injEq] at e
      subst e
      rw [hb] at hb'
      cases hb'
theorem own_apart' {v v' : Value} {n n' : Nat} {xs xs' : List Value} {base base' : Nat} {W : World} (h9 : W.ownsRow base 3 1 v n xs) (h10 : W.ownsRow base' 60 4 v' n' xs') : v'.ownBlock = none ∨ v'.ownBlock ≠ v.ownBlock := by
  rcases own_apart h9 h10 with e | e
  · by_cases g : v'.ownBlock = none
    · exact Or.inl g
    · exact Or.inr (by rw [e]; exact g)
  · exact Or.inr (Ne.symm e)

/-- One more in both. -/
theorem Lists.more {w9 w10 : World} {t : It} {tmp tmp' : Obj} {g9 c9 g10 c10 : Nat} (h : Lists base T P v9 v10 W) (hT : ∀ b, W.heap.size ≤ b → T b = 1000)
    (o1 : w9.ownsRow base 3 1 (.slice (some ⟨g9, 0, none⟩) (P.length + 1) c9) (P.length + 1) ((P.map fun t => .int .i64 t.p) ++ [.int .i64 t.p])) (o2 : (W.alloc tmp).grownBy w9 v9.ownBlock) (o3 : v9.ownBlock = some g9 ∨ g9 = (W.alloc tmp).heap.size)
    (p1 : w10.ownsRow base 60 4 (.slice (some ⟨g10, 0, none⟩) (P.length + 1) c10) (P.length + 1) (flatW P ++ [.int .i64 7, .int .i64 t.s, .int .i64 t.n, .int .i64 0])) (p2 : (w9.alloc tmp').grownBy w10 v10.ownBlock) (p3 : v10.ownBlock = some g10 ∨ g10 = (w9.alloc tmp').heap.size) :
    Lists base T (P ++ [t]) (.slice (some ⟨g9, 0, none⟩) (P.length + 1) c9) (.slice (some ⟨g10, 0, none⟩) (P.length + 1) c10) w10 := by
  have e : (P ++ [t]).length = P.length + 1 := by simp
  have hs := o2.size
  rw [World.size_alloc] at hs
  have h10 : w9.ownsRow base 60 4 v10 P.length (flatW P) := (h.own10.alloc tmp).kept o2 (own_apart' (h.own9.alloc tmp) (h.own10.alloc tmp))
  refine ⟨?_, ?_, fun g hg => ?_, fun g hg => ?_⟩
  · rw [e, List.map_append]
    exact (o1.alloc tmp').kept p2 (own_apart (o1.alloc tmp') (h10.alloc tmp'))
  · rw [e, flatW_append]
    exact p1
  · simp only [Value.ownBlock, Option.some.injEq] at hg
    subst hg
    rcases o3 with o3 | o3
    · exact h.tag9 _ o3
    · exact hT _ (by rw [o3, World.size_alloc]; omega)
  · simp only [Value.ownBlock, Option.some.injEq] at hg
    subst hg
    rcases p3 with p3 | p3
    · exact h.tag10 _ p3
    · exact hT _ (by rw [p3, World.size_alloc]; omega)
theorem Lists.slices (h : Lists base T P v9 v10 W) : ∃ a9 c9 a10 c10, v9 = .slice a9 P.length c9 ∧ v10 = .slice a10 P.length c10 := by
  have e9 : ∃ a c, v9 = .slice a P.length c := by
    rcases h.own9.2 with ⟨e, e2⟩ | ⟨g, cap, cur, e, -⟩
    · exact ⟨none, 0, by rw [e, e2]⟩
    · exact ⟨_, _, e⟩
  have e10 : ∃ a c, v10 = .slice a P.length c := by
    rcases h.own10.2 with ⟨e, e2⟩ | ⟨g, cap, cur, e, -⟩
    · exact ⟨none, 0, by rw [e, e2]⟩
    · exact ⟨_, _, e⟩
  obtain ⟨a, c, e⟩ := e9
  obtain ⟨a', c', e'⟩ := e10
  exact ⟨a, c, a', c', e, e'⟩
theorem Lists.at9 {a9 : Option Addr} {c9 n : Nat} (h : Lists base T P (.slice a9 n c9) v10 W) {q : Nat} (hq : q < P.length) : ∃ g, a9 = some ⟨g, 0, none⟩ ∧ T g = 1000 ∧ W.cell? ⟨g, q, none⟩ = some (.int .i64 (P[q]).p) := by
  rcases h.own9.2 with ⟨e, e2⟩ | ⟨g, cap, cur, e, -⟩
  · omega
  · cases e
    have := h.own9.cells rfl q (.int .i64 (P[q]).p) (by simp [List.getElem?_eq_getElem hq])
    rw [Addr.add_lit] at this
    exact ⟨g, rfl, h.tag9 g rfl, by simpa using this⟩
theorem Lists.at10 {a10 : Option Addr} {c10 n : Nat} (h : Lists base T P v9 (.slice a10 n c10) W) {q : Nat} (hq : q < P.length) : ∃ g, a10 = some ⟨g, 0, none⟩ ∧ T g = 1000 ∧ W.cell? ⟨g, q * 4 + 1, none⟩ = some (.int .i64 (P[q]).s) ∧ W.cell? ⟨g, q * 4 + 2, none⟩ = some (.int .i64 (P[q]).n) := by
  rcases h.own10.2 with ⟨e, e2⟩ | ⟨g, cap, cur, e, -⟩
  · omega
  · cases e
    obtain ⟨f1, f2⟩ := flatW_get hq
    have h1 := h.own10.cells rfl _ _ f1
    have h2 := h.own10.cells rfl _ _ f2
    rw [Addr.add_lit] at h1 h2
    exact ⟨g, rfl, h.tag10 g rfl, by simpa using h1, by simpa using h2⟩
end

end Go.Proofs.Ythcgmfcibjinlaa

/- How many black cells there are, as they are told; the heap's parity. -/
namespace Go.Proofs.Ythcgmfcibjinlaa
open Go.RowKit

theorem tot_mono {f : Rows → List Int} {R : Nat → Rows} {k m : Nat} (h : k ≤ m) : tot f R k ≤ tot f R m := by
  induction m with
  | zero => obtain rfl : k = 0 := by omega
            exact Nat.le_refl _
  | succ m ih =>
    by_cases e : k = m + 1
    · subst e; exact Nat.le_refl _
    · have := ih (by omega)
      have h2 : tot f R (m + 1) = tot f R m + (f (R m)).length := rfl
      omega
theorem Tall.form {base : Nat} {R : Nat → Rows} {v : Nat → Nat → Value} {i : Nat} {a : Option Addr} {n c : Nat} {W : World} (h : Tall base R v i (.slice a n c) W) : n = i := by
  rcases h.own.2 with ⟨e, e2⟩ | ⟨g, cap, cur, e, -⟩
  · cases e; exact e2.symm
  · cases e; rfl
theorem Tall.len {base : Nat} {R : Nat → Rows} {v : Nat → Nat → Value} {i : Nat} {g n c : Nat} {W : World} (h : Tall base R v i (.slice (some ⟨g, 0, none⟩) n c) W) {j : Nat} (hj : j < i) : ∃ a m, W.cell? ⟨g, j * 4 + 3, none⟩ = some (.slice a (R j).black.length m) := by
  have h1 := h.own.cells rfl (j * 4 + 3) _ (flat4_get v hj (by decide))
  rw [Addr.add_lit] at h1
  obtain ⟨ao, cap, e, -⟩ := h.rows j hj 3 (by decide)
  rw [e] at h1
  exact ⟨ao, _, by simpa [Rows.row] using h1⟩

set_option maxHeartbeats 1000000 in
theorem hparity_any (x : HSpot) (T : Nat → Nat) (D : Nat → Int) (R : Nat → Rows) (top par : Int) (L : List (Int × Int)) (w : World) (h : HLies x T D R top par L w) :
    Calls Try.prog 31 #[.pointer (some ⟨x.h, 0, none⟩)] w fun e w' => e = .returned (.int .i64 par) ∧ w' = w := by
  have c6 := h.par
  clear h
  go_enter Try.func31, Try.ntmps31
  go_wp2_with fail
  go_ret
  exact ⟨rfl, rfl⟩

end Go.Proofs.Ythcgmfcibjinlaa

/- HeapCollects: its walk. -/
namespace Go.Proofs.Ythcgmfcibjinlaa
open Go.RowKit

set_option maxHeartbeats 16000000 in
set_option maxRecDepth 100000 in
theorem collects_walk (words large x2 x3 x4 x5 : Int) (a0 a1 a2 : Option Addr) (len cap n1 c1 n2 c2 : Nat) (v u : Nat → Int) (kb : Nat → Bool) (w : World) (hs : Sizes w a0 len v) (hs1 : Sizes w a1 n1 u) (hs2 : Bools w a2 n2 kb) :
    Calls Try.prog 5 #[.agg #[.int .i64 words, .int .i64 large, .int .i64 x2, .int .i64 x3, .int .i64 x4, .int .i64 x5, .slice a0 len cap], .slice a1 n1 c1, .slice a2 n2 c2] w fun e w' => e = .returned (.bool true) ∧ Below w.heap.size w w' := by
  have q : ∀ (w : World) (a : Nat), (binOp .eql 46 (.pointer (some ⟨a, 0, none⟩)) (.pointer none)).run Try.prog w = .ok (.bool false) w := fun w a => rfl
  have hb : Below w.heap.size w (w.alloc (.cells #[.int .i64 words, .int .i64 large, .int .i64 x2, .int .i64 x3, .int .i64 x4, .int .i64 x5, .slice a0 len cap] 44)) := (Below.refl _ _).alloc (Nat.le_refl _) _
  have c0 : ∀ i u, [Value.int .i64 words, .int .i64 large, .int .i64 x2, .int .i64 x3, .int .i64 x4, .int .i64 x5, .slice a0 len cap][i]? = some u → (w.alloc (.cells #[.int .i64 words, .int .i64 large, .int .i64 x2, .int .i64 x3, .int .i64 x4, .int .i64 x5, .slice a0 len cap] 44)).cell? ⟨w.heap.size, i, none⟩ = some u := fun i u hu => by
    have hi := (List.getElem?_eq_some_iff.1 hu).1
    simp only [List.length_cons, List.length_nil] at hi
    obtain rfl | rfl | rfl | rfl | rfl | rfl | rfl : i = 0 ∨ i = 1 ∨ i = 2 ∨ i = 3 ∨ i = 4 ∨ i = 5 ∨ i = 6 := by omega
    all_goals (simp at hu; subst hu; simp [go_sem])
  have HS := Lib.hid (And.intro (hs.below hb) (And.intro (hs1.below hb) (hs2.below hb)))
  have HB := Lib.hid hb
  have d0 := c0 0 _ rfl
  have d1 := c0 1 _ rfl
  have d2 := c0 2 _ rfl
  have d3 := c0 3 _ rfl
  have d4 := c0 4 _ rfl
  have d5 := c0 5 _ rfl
  have d6 := c0 6 _ rfl
  have hl0 : w.heap.size < (w.alloc (.cells #[.int .i64 words, .int .i64 large, .int .i64 x2, .int .i64 x3, .int .i64 x4, .int .i64 x5, .slice a0 len cap] 44)).heap.size := by simp
  clear hs hs1 hs2 hb c0
  go_enter Try.func5, Try.ntmps5
  go_upto_region 1 with fail
  generalize (w.alloc (.cells #[.int .i64 words, .int .i64 large, .int .i64 x2, .int .i64 x3, .int .i64 x4, .int .i64 x5, .slice a0 len cap] 44)) = W at *
  go_wp2_with fail
  refine (hawake_any W).mono ?_
  rintro e w1 ⟨rfl, hb⟩
  replace d0 := later' hb d0
  replace d1 := later' hb d1
  replace d2 := later' hb d2
  replace d3 := later' hb d3
  replace d4 := later' hb d4
  replace d5 := later' hb d5
  replace d6 := later' hb d6
  have HS1 := Lib.hid (And.intro (HS.out.1.below hb) (And.intro (HS.out.2.1.below hb) (HS.out.2.2.below hb)))
  have HB1 := Lib.hid (onB' HB.out hb)
  clear hb HS HB
  by_cases gwords : 300 < words
  · have fwords : decide (300 < words) = true := decide_eq_true gwords
    go_wp2_with fail
    go_ret
    exact ⟨rfl, HB1.out⟩
  have fwords : decide (300 < words) = false := decide_eq_false gwords
  go_wp2_with fail
  refine (right_any words large x2 x3 x4 x5 a0 len cap v w1 HS1.out.1).mono ?_
  rintro e w2 ⟨r, rfl, hr, hb⟩
  replace d0 := later' hb d0
  replace d1 := later' hb d1
  replace d2 := later' hb d2
  replace d3 := later' hb d3
  replace d4 := later' hb d4
  replace d5 := later' hb d5
  replace d6 := later' hb d6
  have HS2 := Lib.hid (And.intro (HS1.out.1.below hb) (And.intro (HS1.out.2.1.below hb) (HS1.out.2.2.below hb)))
  have HB2 := Lib.hid (onB' HB1.out hb)
  have HR := Lib.hid hr
  clear hb HS1 HB1 hr
  cases r with
  | false =>
    go_wp2_with fail
    go_ret
    exact ⟨rfl, HB2.out⟩
  | true =>
    by_cases gn1 : 30 < n1
    · have fn1 : decide ((30 : Int) < (n1 : Int)) = true := decide_eq_true (by omega)
      go_wp2_with fail
      go_ret
      exact ⟨rfl, HB2.out⟩
    have fn1 : decide ((30 : Int) < (n1 : Int)) = false := decide_eq_false (by omega)
    by_cases gn2 : 30 < n2
    · have fn2 : decide ((30 : Int) < (n2 : Int)) = true := decide_eq_true (by omega)
      go_wp2_with fail
      go_ret
      exact ⟨rfl, HB2.out⟩
    have fn2 : decide ((30 : Int) < (n2 : Int)) = false := decide_eq_false (by omega)
    go_wp2_with fail
    refine (heap_new words large x2 x3 x4 x5 a0 len cap v w2 HS2.out.1 (HR.out trivial)).mono ?_
    rintro e w3 ⟨x, T, rfl, f1, f2, f3, f4, h1, hb1, hT⟩
    have hz2 := HB2.out.size
    have hz3 := hb1.size
    have hRP := HR.out trivial
    have hp0 := hRP.w1
    have hp1 := hRP.w2
    have hp2 := hRP.l1
    have hp3 := hRP.l2
    have hp4 := hRP.k1
    have hp5 := hRP.k2
    subst f4
    subst f3
    subst f1
    obtain rfl : large = x.n - x.lim := by omega
    clear f2 d0 d1 d2 d3 d4 d5 d6
    have hm0 : Mkg x (fun _ => 0) (fun _ => none4) 1 (Ex.whole x.lim (x.n - x.lim : Int)) [] 0 := Mkg.none (by omega) (by omega) (by omega) hRP.rise.pos
    have H1 := Lib.hid (And.intro h1 (And.intro hm0 (And.intro (HB2.out.trans (hb1.mono hz2)) (And.intro hb1 hT))))
    clear h1 hm0 hb1 hT hRP HR HB2
    go_wp2_with fail
    clear fn1 fn2 fwords
    go_loopw [9, 10, 11] (fun s9 s10 s11 wr => ∃ (i : Nat) (T' : Nat → Nat) (D : Nat → Int) (R : Nat → Rows) (top : Int) (L : List (Int × Int)) (P : List It) (v9 v10 : Value), i ≤ n1 ∧ v9 = s9 ∧ v10 = s10 ∧ s11 = .int .i64 i ∧ HLies x T' D R top 0 L wr ∧ HTurn T T' w3 wr ∧ Mkg x D R top L P i ∧ Lists w3.heap.size T' P v9 v10 wr ∧ P.length ≤ i) (fun _ _ s11 _ => n1 - (intOf s11).toNat)
    case atStart => exact ⟨0, T, _, _, _, _, [], _, _, Nat.zero_le _, rfl, rfl, rfl, H1.out.1, HTurn.refl T w3, H1.out.2.1, ⟨World.ownsRow_nil _ _ _ _, World.ownsRow_nil _ _ _ _, fun g e => (by cases e), fun g e => (by cases e)⟩, Nat.le_refl _⟩
    case round =>
      obtain ⟨i, T', D, R, top, L, P, v9, v10, hi, rfl, rfl, rfl, hl, htn, hmk, hli, hPl⟩ := hrel
      have HH := Lib.hid (And.intro hl (And.intro htn (And.intro hmk hli)))
      clear hl htn hmk hli
      by_cases gi : i < n1
      · have gi' : (i : Int) < (n1 : Int) := by omega
        obtain ⟨b1, off1, ea1, hlb1, hcs1⟩ := HS2.out.2.1 (by omega)
        have hcu0 := later' H1.out.2.2.2.1 (hcs1 i gi)
        have hTb := H1.out.2.2.2.2 b1 hlb1
        have hcu := HH.out.2.1.cell hcu0 hTb
        clear hcs1
        subst ea1
        go_wp2_with fail
        refine (alloc_any x T' D R top 0 L wr HH.out.1 HH.out.2.2.1.kept.inv 7 i (u i)).mono ?_
        rintro e w5 (⟨hpe, rfl, hl5, ht5⟩ | ⟨hpe, at', T2, D', R', top', N, rfl, hl5, ht5, hA, hW⟩ | ⟨hpe, T2, rfl, hl5, ht5, -⟩)
        · have e2 : (Ce.pe 7 (u i) i 0 != 0) = true := by simpa using hpe
          have H5 := Lib.hid (And.intro hl5 (And.intro (HH.out.2.1.trans ht5) (And.intro HH.out.2.2.1.succ (HH.out.2.2.2.turn ht5))))
          clear hl5 ht5 hpe
          generalize Ce.pe 7 (u i) i 0 = pe at *
          go_wp2_with fail
          exact ⟨⟨i + 1, T', D, R, top, L, P, _, _, by omega, rfl, rfl, by go_num, H5.out.1, H5.out.2.1, H5.out.2.2.1, H5.out.2.2.2, by omega⟩, by simp [intOf]; omega⟩
        · have hnd : ∀ j, j ≤ x.k → (R j).all.Nodup := fun j hj => (HH.out.1.rings j hj).fit.nodup
          obtain ⟨hhd, hob, hmore⟩ := HH.out.2.2.1.more (by omega) HH.out.1.good hA hpe hW hnd
          have hcu5 := ht5.cell hcu (HH.out.2.1.block b1 (by omega) hTb).1
          have HM := Lib.hid (And.intro hhd (And.intro hob hmore))
          have H5 := Lib.hid (And.intro hl5 (And.intro (HH.out.2.1.trans ht5) (HH.out.2.2.2.turn ht5)))
          have hs0 := hhd.fit.2.1
          have hn6 := HH.out.2.2.1.kept.inv.n6
          clear hl5 ht5 hA hW hnd hhd hob hmore hcu hcu0 hpe
          by_cases gs : 0 < u i
          · have e3 : IntKind.i64.wrap (u i - 1) = u i - 1 := by rw [IntKind.wrap_i64]; omega
            have e4 : IntKind.i64.wrap (1000 + (i : Int)) = 1000 + i := by rw [IntKind.wrap_i64]; omega
            go_wp2_with fail
            refine (set_in x T2 D' R' top' 0 N w5 H5.out.1 at' 7 (u i) i 0 HM.out.2.1.one HM.out.2.1.le hn6 HM.out.1 (u i - 1) (1000 + i) ⟨by omega, by omega⟩ (HM.out.2.1.words ⟨by omega, by omega⟩)).mono ?_
            rintro e W5 ⟨rfl, hS⟩
            have h0 := HM.out.2.1.one
            have hcu := hS.2.cell hcu5 (H5.out.2.1.block b1 (by omega) hTb).1
            have HW := Lib.hid (And.intro hS.1 (And.intro (H5.out.2.1.trans hS.2) (And.intro (H5.out.2.2.turn hS.2) (HM.out.2.2 (putW D' (at' + 3 + (u i - 1)) (1000 + i)) (fun m hm => putW_other (by omega)) (fun _ => putW_same)))))
            clear hS hcu5 H5 HM HH e3 e4
            generalize putW D' (at' + 3 + (u i - 1)) (1000 + i) = E at *
            obtain ⟨r1, r2⟩ := HW.out.1.retag
            have hT3 : ∀ b, W5.heap.size ≤ b → retag T2 W5.heap.size b = 1000 := fun b hb => if_neg (by omega)
            have hx := (Below.refl W5.heap.size W5).alloc (Nat.le_refl _) (.cells #[.int .i64 at'] 3)
            have hb5 : b1 < W5.heap.size := World.block_lt_of_cell? _ _ hcu
            have hbw : b1 < w3.heap.size := by omega
            have HX := Lib.hid (And.intro r1 (And.intro (HW.out.2.1.trans r2) (And.intro (HW.out.2.2.1.turn r2) (And.intro HW.out.2.2.2 hT3))))
            have hs5 := HW.out.2.1.size
            clear r1 r2 hT3 HW
            generalize retag T2 W5.heap.size = T3 at *
            have hcu1 := later' hx hcu
            clear hx
            obtain ⟨i0, hi0, hz0, hzs, hzb⟩ := info_parts Try.info_int
            obtain ⟨j0, hj0, jz0, jzs, jzb⟩ := info_parts Try.info_rcell
            have hne9 : some b1 ≠ v9.ownBlock := fun e => by have := (HX.out.2.2.1.own9.lt _ e.symm).1; omega
            have m9 : P.length + 1 ≤ maxLen := by unfold maxLen; omega
            have m8 : (P.length + 1) * 8 ≤ 140737488355328 := by omega
            have m32 : (P.length + 1) * 32 ≤ 140737488355328 := by omega
            have mb : w3.heap.size ≤ (W5.alloc (.cells #[.int .i64 at'] 3)).heap.size := by simp; omega
            have one1 : ∀ y ∈ [Value.int .i64 at'], y.oneCell' = true := by intro y hy; simp at hy; subst hy; rfl
            have one4 : ∀ y ∈ [Value.int .i64 7, .int .i64 (u i), .int .i64 i, .int .i64 0], y.oneCell' = true := by intro y hy; simp at hy; rcases hy with rfl | rfl | rfl | rfl <;> rfl
            go_upto_region 18 with (at_builtin; refine wpList_append_lies _ rfl _ _ 37 rfl w3.heap.size 3 i0 (.int .i64 0) 1 8 Try.underlying37 hi0 hz0 hzs hzb rfl (by decide) v9 P.length (P.map fun t => .int .i64 t.p) rfl (HX.out.2.2.1.own9.alloc _) ⟨W5.heap.size, 0, none⟩ 1 1 [.int .i64 at'] rfl rfl (World.news_of_block (heap_alloc_new _ _)) one1 (by decide) m9 m8 mb _ rfl ?_; intro g9 cap9 w9 o1 o2 o3 o4)
            have hcu9 := o2.cell hcu1 hne9
            have hown10 := (HX.out.2.2.1.own10.alloc (.cells #[.int .i64 at'] 3)).kept o2 (own_apart' HX.out.2.2.1.own9 HX.out.2.2.1.own10)
            have hs9 := o2.size
            rw [World.size_alloc] at hs9
            have HO := Lib.hid (And.intro o1 (And.intro o2 (And.intro o3 hown10)))
            clear o1 o2 o3 hown10
            go_wp2_with (at_builtin; refine wpList_append_lies _ rfl _ _ 55 rfl w3.heap.size 60 j0 (.agg #[.int .i64 0, .int .i64 0, .int .i64 0, .int .i64 0]) 4 32 Try.underlying55 hj0 jz0 jzs jzb rfl (by decide) v10 P.length (flatW P) rfl (HO.out.2.2.2.alloc _) ⟨w9.heap.size, 0, none⟩ 1 1 [.int .i64 7, .int .i64 (u i), .int .i64 i, .int .i64 0] rfl rfl (World.news_of_block (heap_alloc_new _ _)) one4 (by decide) m9 m32 (by simp; omega) _ rfl ?_; intro g10 cap10 w10 p1 p2 p3 p4)
            have hl3 := ((HX.out.1.later ((Below.refl W5.heap.size W5).alloc (Nat.le_refl _) (.cells #[.int .i64 at'] 3))).grown HO.out.2.1 HX.out.2.2.1.tag9)
            have hl4 := ((hl3.later ((Below.refl w9.heap.size w9).alloc (Nat.le_refl _) _)).grown p2 HX.out.2.2.1.tag10)
            have ht3 := ((HX.out.2.1.trans (HTurn.of_below ((Below.refl W5.heap.size W5).alloc (Nat.le_refl _) (.cells #[.int .i64 at'] 3)))).grown HO.out.2.1 (fun g e => (HX.out.2.2.1.own9.lt g e).1))
            have ht4 := ((ht3.trans (HTurn.of_below ((Below.refl w9.heap.size w9).alloc (Nat.le_refl _) _))).grown p2 (fun g e => (HX.out.2.2.1.own10.lt g e).1))
            have hli := HX.out.2.2.1.more (t := ⟨at', u i, i⟩) HX.out.2.2.2.2 HO.out.1 HO.out.2.1 HO.out.2.2.1 p1 p2 p3
            exact ⟨⟨i + 1, T3, _, _, _, _, P ++ [⟨at', u i, i⟩], _, _, by omega, rfl, rfl, by go_num, hl4, ht4, HX.out.2.2.2.1, hli, by simp; omega⟩, by simp [intOf]; omega⟩
          · generalize w5 = W5 at *
            have hcu := hcu5
            have HW := Lib.hid (And.intro H5.out.1 (And.intro H5.out.2.1 (And.intro H5.out.2.2 (HM.out.2.2 D' (fun m hm => rfl) (fun h => absurd h gs)))))
            clear hcu5 H5 HM HH
            generalize D' = E at *
            obtain ⟨r1, r2⟩ := HW.out.1.retag
            have hT3 : ∀ b, W5.heap.size ≤ b → retag T2 W5.heap.size b = 1000 := fun b hb => if_neg (by omega)
            have hx := (Below.refl W5.heap.size W5).alloc (Nat.le_refl _) (.cells #[.int .i64 at'] 3)
            have hb5 : b1 < W5.heap.size := World.block_lt_of_cell? _ _ hcu
            have hbw : b1 < w3.heap.size := by omega
            have HX := Lib.hid (And.intro r1 (And.intro (HW.out.2.1.trans r2) (And.intro (HW.out.2.2.1.turn r2) (And.intro HW.out.2.2.2 hT3))))
            have hs5 := HW.out.2.1.size
            clear r1 r2 hT3 HW
            generalize retag T2 W5.heap.size = T3 at *
            have hcu1 := later' hx hcu
            clear hx
            obtain ⟨i0, hi0, hz0, hzs, hzb⟩ := info_parts Try.info_int
            obtain ⟨j0, hj0, jz0, jzs, jzb⟩ := info_parts Try.info_rcell
            have hne9 : some b1 ≠ v9.ownBlock := fun e => by have := (HX.out.2.2.1.own9.lt _ e.symm).1; omega
            have m9 : P.length + 1 ≤ maxLen := by unfold maxLen; omega
            have m8 : (P.length + 1) * 8 ≤ 140737488355328 := by omega
            have m32 : (P.length + 1) * 32 ≤ 140737488355328 := by omega
            have mb : w3.heap.size ≤ (W5.alloc (.cells #[.int .i64 at'] 3)).heap.size := by simp; omega
            have one1 : ∀ y ∈ [Value.int .i64 at'], y.oneCell' = true := by intro y hy; simp at hy; subst hy; rfl
            have one4 : ∀ y ∈ [Value.int .i64 7, .int .i64 (u i), .int .i64 i, .int .i64 0], y.oneCell' = true := by intro y hy; simp at hy; rcases hy with rfl | rfl | rfl | rfl <;> rfl
            go_upto_region 18 with (at_builtin; refine wpList_append_lies _ rfl _ _ 37 rfl w3.heap.size 3 i0 (.int .i64 0) 1 8 Try.underlying37 hi0 hz0 hzs hzb rfl (by decide) v9 P.length (P.map fun t => .int .i64 t.p) rfl (HX.out.2.2.1.own9.alloc _) ⟨W5.heap.size, 0, none⟩ 1 1 [.int .i64 at'] rfl rfl (World.news_of_block (heap_alloc_new _ _)) one1 (by decide) m9 m8 mb _ rfl ?_; intro g9 cap9 w9 o1 o2 o3 o4)
            have hcu9 := o2.cell hcu1 hne9
            have hown10 := (HX.out.2.2.1.own10.alloc (.cells #[.int .i64 at'] 3)).kept o2 (own_apart' HX.out.2.2.1.own9 HX.out.2.2.1.own10)
            have hs9 := o2.size
            rw [World.size_alloc] at hs9
            have HO := Lib.hid (And.intro o1 (And.intro o2 (And.intro o3 hown10)))
            clear o1 o2 o3 hown10
            go_wp2_with (at_builtin; refine wpList_append_lies _ rfl _ _ 55 rfl w3.heap.size 60 j0 (.agg #[.int .i64 0, .int .i64 0, .int .i64 0, .int .i64 0]) 4 32 Try.underlying55 hj0 jz0 jzs jzb rfl (by decide) v10 P.length (flatW P) rfl (HO.out.2.2.2.alloc _) ⟨w9.heap.size, 0, none⟩ 1 1 [.int .i64 7, .int .i64 (u i), .int .i64 i, .int .i64 0] rfl rfl (World.news_of_block (heap_alloc_new _ _)) one4 (by decide) m9 m32 (by simp; omega) _ rfl ?_; intro g10 cap10 w10 p1 p2 p3 p4)
            have hl3 := ((HX.out.1.later ((Below.refl W5.heap.size W5).alloc (Nat.le_refl _) (.cells #[.int .i64 at'] 3))).grown HO.out.2.1 HX.out.2.2.1.tag9)
            have hl4 := ((hl3.later ((Below.refl w9.heap.size w9).alloc (Nat.le_refl _) _)).grown p2 HX.out.2.2.1.tag10)
            have ht3 := ((HX.out.2.1.trans (HTurn.of_below ((Below.refl W5.heap.size W5).alloc (Nat.le_refl _) (.cells #[.int .i64 at'] 3)))).grown HO.out.2.1 (fun g e => (HX.out.2.2.1.own9.lt g e).1))
            have ht4 := ((ht3.trans (HTurn.of_below ((Below.refl w9.heap.size w9).alloc (Nat.le_refl _) _))).grown p2 (fun g e => (HX.out.2.2.1.own10.lt g e).1))
            have hli := HX.out.2.2.1.more (t := ⟨at', u i, i⟩) HX.out.2.2.2.2 HO.out.1 HO.out.2.1 HO.out.2.2.1 p1 p2 p3
            exact ⟨⟨i + 1, T3, _, _, _, _, P ++ [⟨at', u i, i⟩], _, _, by omega, rfl, rfl, by go_num, hl4, ht4, HX.out.2.2.2.1, hli, by simp; omega⟩, by simp [intOf]; omega⟩
        · have H5 := Lib.hid (And.intro hl5 (And.intro (HH.out.2.1.trans ht5) (And.intro HH.out.2.2.1.succ (HH.out.2.2.2.turn ht5))))
          clear hl5 ht5 hpe
          go_wp2_with fail
          exact ⟨⟨i + 1, T2, D, R, top, L, P, _, _, by omega, rfl, rfl, by go_num, H5.out.1, H5.out.2.1, H5.out.2.2.1, H5.out.2.2.2, by omega⟩, by simp [intOf]; omega⟩
      · obtain rfl : i = n1 := by omega
        have hnx : 0 < x.n := by have := HH.out.2.2.1.kept.inv.t0; have := HH.out.2.2.1.kept.inv.t1; have := HH.out.2.2.1.kept.inv.ln; omega
        go_wp2_with fail
        refine (hbegin_any x T' D R top 0 L wr HH.out.1 hnx (Or.inl rfl) (fun j hj => (HH.out.2.2.1.row j hj).2.1) (fun j hj => (HH.out.2.2.1.row j hj).2.2)).mono ?_
        rintro e w6 ⟨rfl, T6, hl6, ht6⟩
        obtain ⟨kp, hkp⟩ : ∃ kp : Nat → Bool, ∀ q, kp q = (decide (q < n2) && kb q) := ⟨_, fun _ => rfl⟩
        have HK := Lib.hid hkp
        have H6 := Lib.hid (And.intro ((show (1 : Int) - 0 = 1 from rfl) ▸ hl6) (And.intro (HH.out.2.1.trans ht6) (And.intro (HH.out.2.2.1.begun kp) (HH.out.2.2.2.turn ht6))))
        clear hl6 ht6 hkp HH
        obtain ⟨a9, c9, a10, c10, rfl, rfl⟩ := H6.out.2.2.2.slices
        go_wp2_with fail
        generalize wr = wA at *
        go_loopw [14, 15] (fun s14 s15 wr => ∃ (i cnt : Nat) (T2 : Nat → Nat) (D2 : Nat → Int) (R2 : Nat → Rows) (M : Int → Int), i ≤ P.length ∧ s14 = .int .i64 cnt ∧ s15 = .int .i64 i ∧ HLies x T2 D2 R2 top 1 L wr ∧ HTurn T T2 w3 wr ∧ Shd x D2 R2 top L P M kp i cnt ∧ Lists w3.heap.size T2 P (.slice a9 P.length c9) (.slice a10 P.length c10) wr) (fun _ s15 _ => P.length - (intOf s15).toNat)
        case atStart => exact ⟨0, 0, T6, D, _, _, Nat.zero_le _, rfl, rfl, H6.out.1, H6.out.2.1, H6.out.2.2.1, H6.out.2.2.2⟩
        case round =>
          clear H6
          obtain ⟨j, cnt, T2, D2, R2, M, hj, rfl, rfl, hl, htn, hsh, hli⟩ := hrel
          have HH := Lib.hid (And.intro hl (And.intro htn (And.intro hsh hli)))
          have hcj := hsh.le
          clear hl htn hsh hli
          by_cases gj : j < P.length
          · have gj' : (j : Int) < (P.length : Int) := by omega
            obtain ⟨g9, ea9, tg9, hc9⟩ := HH.out.2.2.2.at9 gj
            subst ea9
            have hg9 : g9 < wr.heap.size := World.block_lt_of_cell? _ _ hc9
            have hskip : kp j = false → ∃ (i cnt' : Nat) (T2 : Nat → Nat) (D2 : Nat → Int) (R2 : Nat → Rows) (M : Int → Int), i ≤ P.length ∧ Value.int .i64 (cnt : Int) = .int .i64 cnt' ∧ Value.int .i64 ((j : Int) + 1) = .int .i64 i ∧ HLies x T2 D2 R2 top 1 L wr ∧ HTurn T T2 w3 wr ∧ Shd x D2 R2 top L P M kp i cnt' ∧ Lists w3.heap.size T2 P (.slice (some ⟨g9, 0, none⟩) P.length c9) (.slice a10 P.length c10) wr := fun hk => ⟨j + 1, cnt, T2, D2, R2, M, by omega, rfl, by go_num, HH.out.1, HH.out.2.1, HH.out.2.2.1.skip hk, HH.out.2.2.2⟩
            have HSK := Lib.hid hskip
            clear hskip
            by_cases gb : j < n2
            · have gb' : decide (j < n2) = true := decide_eq_true gb
              obtain ⟨b2, off2, ea2, hlb2, hcs2⟩ := HS2.out.2.2 (by omega)
              have hcb := HH.out.2.1.cell (later' H1.out.2.2.2.1 (hcs2 j gb)) (H1.out.2.2.2.2 b2 hlb2)
              subst ea2
              clear hcs2
              cases hkj : kb j with
              | false =>
                rw [hkj] at hcb
                have hk0 : kp j = false := by rw [HK.out, hkj, Bool.and_false]
                have HK0 := Lib.hid hk0
                clear hk0 hkj
                go_wp2_with fail
                exact ⟨HSK.out HK0.out, by simp [intOf]; omega⟩
              | true =>
                rw [hkj] at hcb
                have hk1 : kp j = true := by rw [HK.out, hkj, gb', Bool.and_true]
                have HK1 := Lib.hid hk1
                obtain ⟨cc, hC, hfm, hhd⟩ := HH.out.2.2.1.ready gj
                obtain ⟨jj, -, -, -, hob⟩ := HH.out.2.2.1.kept.obj (List.getElem_mem gj)
                have HC := Lib.hid (And.intro hC (And.intro hfm (And.intro hhd (And.intro hob.one hob.le))))
                have hs0 := hhd.fit.2.1
                clear hC hfm hhd hob hk1 hkj
                go_wp2_with fail
                refine (hshade_any x T2 D2 R2 top 1 L wr HH.out.1 HH.out.2.2.1.kept.inv cc (P[j]).p 7 (P[j]).s (P[j]).n 0 HC.out.1 HC.out.2.1 HC.out.2.2.1 (by omega) (Or.inr rfl)).mono ?_
                rintro e w7 ⟨rfl, T3, D3, hS, hl7, ht7⟩
                have hst := HH.out.2.2.1.step gj HK1.out HC.out.1 HC.out.2.1 hS
                have hc97 := ht7.cell hc9 tg9
                have hhd7 := hst.kept.hd _ (List.getElem_mem gj)
                simp only [if_true] at hhd7
                have tg97 := (ht7.block g9 hg9 tg9).1
                have H7 := Lib.hid (And.intro hl7 (And.intro (HH.out.2.1.trans ht7) (And.intro hst (And.intro (HH.out.2.2.2.turn ht7) hhd7))))
                clear hl7 ht7 hst hhd7 hS
                go_wp2_with fail
                refine (hshade_not x T3 _ _ top 1 L w7 H7.out.1 (P[j]).p 7 (P[j]).s (P[j]).n HC.out.2.2.2.1 (by have := HC.out.2.2.2.2; omega) H7.out.2.2.2.2).mono ?_
                rintro e w8 ⟨rfl, hS8⟩
                have H8 := Lib.hid (And.intro hS8.1 (And.intro (H7.out.2.1.trans hS8.2) (H7.out.2.2.2.1.turn hS8.2)))
                clear hS8
                go_wp2_with fail
                exact ⟨⟨j + 1, cnt + 1, T3, _, _, _, by omega, by go_num, by go_num, H8.out.1, H8.out.2.1, H7.out.2.2.1, H8.out.2.2⟩, by simp [intOf]; omega⟩
            · have gb' : decide (j < n2) = false := decide_eq_false gb
              have hk0 : kp j = false := by rw [HK.out, gb', Bool.false_and]
              have HK0 := Lib.hid hk0
              clear hk0
              go_wp2_with fail
              exact ⟨HSK.out HK0.out, by simp [intOf]; omega⟩
          · obtain rfl : j = P.length := by omega
            go_wp2_with fail
            generalize wr = wB at *
            go_loopw [20] (fun s20 wr => ∃ (k : Nat) (T4 : Nat → Nat) (R4 : Nat → Rows), k ≤ P.length ∧ s20 = .int .i64 k ∧ HLies x T4 D2 R4 top 1 L wr ∧ HTurn T T4 w3 wr ∧ Dng x D2 R4 top L P M cnt (P.length - k) ∧ Lists w3.heap.size T4 P (.slice a9 P.length c9) (.slice a10 P.length c10) wr) (fun s20 _ => P.length - (intOf s20).toNat)
            case atStart => exact ⟨0, T2, R2, Nat.zero_le _, rfl, HH.out.1, HH.out.2.1, HH.out.2.2.1.doing, HH.out.2.2.2⟩
            case round =>
              obtain ⟨k, T4, R4, hk, rfl, hl, htn, hdn, hli⟩ := hrel
              have HJ := Lib.hid (And.intro hl (And.intro htn (And.intro hdn hli)))
              clear hl htn hdn hli
              by_cases gk : k < P.length
              · have gk' : (k : Int) < (P.length : Int) := by omega
                obtain ⟨ii, hii, hg0, hg1⟩ := first_grey R4 (x.k + 1)
                obtain ⟨lg, cg, hg⟩ : ∃ (l : List Int) (c : Int), ii ≤ x.k → (R4 ii).grey = l ++ [c] := by
                  by_cases e : ii < x.k + 1
                  · obtain ⟨l, c, h⟩ := hg1 e
                    exact ⟨l, c, fun _ => h⟩
                  · exact ⟨[], 0, fun h => by omega⟩
                have HG := Lib.hid (And.intro hg0 hg)
                have H0 := Lib.hid (hnext_any x T4 D2 R4 top 1 L wr HJ.out.1 hnx ii cg lg (fun j _ hj => hg0 j hj) hii hg)
                clear hg0 hg1 hg
                go_wp2_with fail
                refine H0.out.mono ?_
                rintro e w7 ⟨rfl, T5, hl7, ht7⟩
                have H7 := Lib.hid (And.intro hl7 (And.intro (HJ.out.2.1.trans ht7) (HJ.out.2.2.2.turn ht7)))
                clear hl7 ht7 H0
                by_cases ge : ii ≤ x.k
                · have gd : decide (ii ≤ x.k) = true := decide_eq_true ge
                  rw [gd, if_pos ge]
                  have hgr := HG.out.2 ge
                  have hmem : cg ∈ (R4 ii).all := by unfold Rows.all; rw [hgr]; simp
                  obtain ⟨t, ht, htp, hCt⟩ := HJ.out.2.2.1.kept.all ii ge cg hmem
                  have hhd := HJ.out.2.2.1.kept.hd t ht
                  obtain ⟨_, -, -, -, hob⟩ := HJ.out.2.2.1.kept.obj ht
                  rw [htp] at hhd hob
                  have hs0 := hhd.fit.2.1
                  have hdo := Lib.hid (hdone_any x T5 D2 R4 top 1 L w7 H7.out.1 ii cg 7 t.s t.n (M cg) lg hCt hgr hhd hob.one (by have := hob.le; omega))
                  have hdn2 := Lib.hid (HJ.out.2.2.1.step ge hgr)
                  clear hgr hmem hhd hob hCt gd
                  go_wp2_with fail
                  refine hdo.out.mono ?_
                  rintro e w8 ⟨rfl, hS8⟩
                  have H8 := Lib.hid (And.intro hS8.1 (And.intro (H7.out.2.1.trans hS8.2) (H7.out.2.2.turn hS8.2)))
                  clear hS8 hdo
                  go_wp2_with fail
                  exact ⟨⟨k + 1, T5, _, by omega, by go_num, H8.out.1, H8.out.2.1, (show P.length - k - 1 = P.length - (k + 1) by omega) ▸ hdn2.out, H8.out.2.2⟩, by simp [intOf]; omega⟩
                · have gd : decide (ii ≤ x.k) = false := decide_eq_false ge
                  rw [gd, if_neg ge]
                  have hdn2 := Lib.hid (HJ.out.2.2.1.rest (fun j hj => HG.out.1 j (by omega)))
                  clear gd
                  go_wp2_with fail
                  exact ⟨⟨k + 1, T5, R4, by omega, by go_num, H7.out.1, H7.out.2.1, (show P.length - k - 1 = P.length - (k + 1) by omega) ▸ hdn2.out, H7.out.2.2⟩, by simp [intOf]; omega⟩
              · obtain rfl : k = P.length := by omega
                have hd0 : Dng x D2 R4 top L P M cnt 0 := (show P.length - P.length = 0 by omega) ▸ HJ.out.2.2.1
                have hgr := tot_zero (f := Rows.grey) (R := R4) (k := x.k + 1) (by have := hd0.low; omega)
                have HE := Lib.hid (And.intro hd0.ended (show ∀ j, j ≤ x.k → (R4 j).grey = [] from fun j hj => hgr j (by omega)))
                clear hd0 hgr
                go_wp2_with fail
                refine (hend_any x T4 D2 R4 top 1 L wr HJ.out.1 hnx HE.out.2).mono ?_
                rintro e w7 ⟨rfl, T5, hl7, ht7⟩
                have H7 := Lib.hid (And.intro hl7 (And.intro (HJ.out.2.1.trans ht7) (HJ.out.2.2.2.turn ht7)))
                clear hl7 ht7
                generalize hRR : mix Rows.fin R4 (x.k + 1) = R7 at *
                have HF := Lib.hid (show Kept x D2 R7 top L P M ∧ tot Rows.black R7 (x.k + 1) = cnt from hRR ▸ HE.out.1)
                clear HE HJ hRR
                go_wp2_with fail
                refine (hrings_any x T5 D2 R7 top 1 L w7 H7.out.1).mono ?_
                rintro e w8 ⟨vv, aa, nn, cc, rfl, hta, T6, hl8, ht8, hT8⟩
                have H8 := Lib.hid (And.intro hl8 (And.intro (H7.out.2.1.trans ht8) (And.intro (H7.out.2.2.turn ht8) (And.intro hta hT8))))
                have hs8 := ht8.size
                clear hl8 ht8 hta hT8
                go_wp2_with fail
                refine (hlarge_any x T6 D2 R7 top 1 L w8 H8.out.1).mono ?_
                rintro e w9 ⟨v0, v1, v2, v3, rfl, q0, q1, q2, q3, T7, hl9, ht9⟩
                obtain ⟨f, rfl, rfl, rfl, rfl⟩ := four_of v0 v1 v2 v3
                have hrow : ∀ c, c < 4 → Row w9 w7.heap.size w9.heap.size (f c) ((R7 x.k).row c) := fun c hc => by
                  obtain rfl | rfl | rfl | rfl : c = 0 ∨ c = 1 ∨ c = 2 ∨ c = 3 := by omega
                  · exact q0.mono hs8 (Nat.le_refl _)
                  · exact q1.mono hs8 (Nat.le_refl _)
                  · exact q2.mono hs8 (Nat.le_refl _)
                  · exact q3.mono hs8 (Nat.le_refl _)
                have one : ∀ c, c < 4 → (f c).oneCell' = true := fun c hc => by
                  obtain ⟨a, n, c, e⟩ := (hrow c hc).slice
                  rw [e]
                  rfl
                have hone : ∀ u, u ∈ [f 0, f 1, f 2, f 3] → u.oneCell' = true := fun u hu => by
                  simp only [List.mem_cons, List.not_mem_nil, or_false] at hu
                  rcases hu with rfl | rfl | rfl | rfl <;> exact one _ (by decide)
                have hta := H8.out.2.2.2.1.turn (fun b hb _ => H8.out.2.2.2.2 b hb) ht9
                have htg : ∀ g, (Value.slice aa nn cc).ownBlock = some g → w7.heap.size ≤ g ∧ T7 g = 1000 := fun g e => by
                  have h1 := H8.out.2.2.2.1.own.lt g e
                  exact ⟨h1.1, (ht9.block g h1.2 (H8.out.2.2.2.2 g h1.1)).1⟩
                have hs9 := ht9.size
                have hs37 := H7.out.2.1.size
                obtain ⟨r1, r2⟩ := hl9.retag
                have hx := (Below.refl w9.heap.size w9).alloc (Nat.le_refl _) (.cells #[f 0, f 1, f 2, f 3] 40)
                have H9 := Lib.hid (And.intro r1 (And.intro ((H8.out.2.1.trans ht9).trans r2) (And.intro ((H8.out.2.2.1.turn ht9).turn r2) (And.intro hta (And.intro hrow (And.intro hone htg))))))
                have hk6 := H8.out.1.k6
                obtain rfl : nn = x.k := H8.out.2.2.2.1.form
                have htag : ∀ g, (Value.slice aa x.k cc).ownBlock = some g → retag T7 w9.heap.size g = 1000 := fun g e => by
                  unfold retag
                  split
                  · exact (htg g e).2
                  · rfl
                have HTG := Lib.hid htag
                have hapart : ∀ v n (e : TypeId) z xs, w9.ownsRow w3.heap.size e z v n xs → (∀ g, v.ownBlock = some g → g < w7.heap.size) → v.ownBlock = none ∨ v.ownBlock ≠ (Value.slice aa x.k cc).ownBlock := fun v n e z xs _ hlt => by
                  by_cases g : v.ownBlock = none
                  · exact Or.inl g
                  · refine Or.inr fun e2 => ?_
                    obtain ⟨gg, hgg⟩ := Option.ne_none_iff_exists'.1 g
                    have h1 := hlt gg hgg
                    rw [hgg] at e2
                    have h2 := (htg gg e2.symm).1
                    omega
                have hlt9 := fun g e => (H7.out.2.2.own9.lt g e).2
                have hlt10 := fun g e => (H7.out.2.2.own10.lt g e).2
                have HAP := Lib.hid (And.intro (hapart _ _ _ _ _ H9.out.2.2.1.own9 hlt9) (hapart _ _ _ _ _ H9.out.2.2.1.own10 hlt10))
                obtain ⟨i0, hi0, hz0, hzs, hzb⟩ := info_parts Try.info_segment
                clear q0 q1 q2 q3 hrow one hone hta htg hl9 ht9 r1 r2 H8 htag hapart hlt9 hlt10
                go_wp2_with (at_builtin; refine wpList_append_lies _ rfl _ _ 67 rfl w7.heap.size 40 i0 (.agg #[.slice none 0 0, .slice none 0 0, .slice none 0 0, .slice none 0 0]) 4 96 Try.underlying67 hi0 hz0 hzs hzb rfl (by decide) (.slice aa x.k cc) x.k (flat4 vv x.k) rfl (H9.out.2.2.2.1.own.alloc _) ⟨w9.heap.size, 0, none⟩ 1 1 [f 0, f 1, f 2, f 3] rfl rfl (World.news_of_block (heap_alloc_new _ _)) H9.out.2.2.2.2.2.1 (by decide) (by unfold maxLen; omega) (by omega) (by simp; omega) _ rfl ?_; intro g11 cap11 w11 o1 o2 o3 o4)
                have ht11 := H9.out.2.2.2.1.grown H9.out.2.2.2.2.1 o1 o2
                have hl11 := (H9.out.1.later hx).grown o2 HTG.out
                have hn11 := (H9.out.2.1.trans (HTurn.of_below hx)).grown o2 (fun g e => by have := (H9.out.2.2.2.2.2.2 g e).1; omega)
                have hs11 := o2.size
                rw [World.size_alloc] at hs11
                have hli11 : Lists w3.heap.size (retag T7 w9.heap.size) P (.slice a9 P.length c9) (.slice a10 P.length c10) w11 :=
                  ⟨(H9.out.2.2.1.own9.alloc _).kept o2 HAP.out.1, (H9.out.2.2.1.own10.alloc _).kept o2 HAP.out.2, H9.out.2.2.1.tag9, H9.out.2.2.1.tag10⟩
                have H11 := Lib.hid (And.intro hl11 (And.intro hn11 (And.intro hli11 ht11)))
                clear o1 o2 o3 o4 hx hl11 hn11 hli11 ht11 H9 HTG HAP H7 hs11
                generalize retag T7 w9.heap.size = T8 at *
                generalize wr = wC at *
                have hbk := HF.out.2
                have hPn : P.length ≤ 30 := by omega
                go_loop [23, 25] (fun s23 s25 => ∃ k : Nat, k ≤ x.k + 1 ∧ s25 = .int .i64 k ∧ s23 = .int .i64 (tot Rows.black R7 k)) (fun _ s25 => x.k + 1 - (intOf s25).toNat)
                case atStart => exact ⟨0, Nat.zero_le _, rfl, rfl⟩
                case round =>
                  obtain ⟨k, hk, rfl, rfl⟩ := hrel
                  by_cases gk : k < x.k + 1
                  · have gk' : (k : Int) < (x.k : Int) + 1 := by omega
                    obtain ⟨al, ml, hcl⟩ := H11.out.2.2.2.len gk
                    have hm1 := tot_mono (f := Rows.black) (R := R7) (show k + 1 ≤ x.k + 1 by omega)
                    have hm2 : tot Rows.black R7 (k + 1) = tot Rows.black R7 k + (R7 k).black.length := rfl
                    have HM2 := Lib.hid hm2
                    rw [hm2] at hm1
                    clear hm2
                    generalize (R7 k).black.length = bl at *
                    obtain ⟨tk, htk⟩ : ∃ tk, tot Rows.black R7 k = tk := ⟨_, rfl⟩
                    have HTK := Lib.hid htk
                    rw [htk] at hm1 ⊢
                    clear htk
                    have etk : IntKind.i64.wrap ((tk : Int) + (bl : Int)) = (tk : Int) + bl := by rw [IntKind.wrap_i64]; omega
                    go_wp2_with fail
                    exact ⟨⟨k + 1, by omega, by go_num, by rw [HM2.out, HTK.out]; go_num⟩, by simp [intOf]; omega⟩
                  · obtain rfl : k = x.k + 1 := by omega
                    rw [hbk]
                    have hmk := HH.out.2.2.1.mark
                    have HMK := Lib.hid hmk
                    clear hmk hbk
                    go_wp2_with fail
                    go_loopw [26] (fun s26 wr => ∃ (j : Nat) (T9 : Nat → Nat), j ≤ P.length ∧ s26 = .int .i64 j ∧ HLies x T9 D2 R7 top 1 L wr ∧ HTurn T T9 w3 wr ∧ Lists w3.heap.size T9 P (.slice a9 P.length c9) (.slice a10 P.length c10) wr) (fun s26 _ => P.length - (intOf s26).toNat)
                    case atStart => exact ⟨0, T8, Nat.zero_le _, rfl, H11.out.1, H11.out.2.1, H11.out.2.2.1⟩
                    case round =>
                      obtain ⟨j, T9, hj, rfl, hl, htn, hli⟩ := hrel
                      have HQ := Lib.hid (And.intro hl (And.intro htn hli))
                      clear hl htn hli
                      by_cases gj : j < P.length
                      · have gj' : (j : Int) < (P.length : Int) := by omega
                        obtain ⟨g9, ea9, tg9, hc9⟩ := HQ.out.2.2.at9 gj
                        obtain ⟨g10, ea10, tg10, hcs, hcn⟩ := HQ.out.2.2.at10 gj
                        subst ea9
                        subst ea10
                        have hSK : ∃ (i : Nat) (T9 : Nat → Nat), i ≤ P.length ∧ Value.int .i64 ((j : Int) + 1) = .int .i64 i ∧ HLies x T9 D2 R7 top 1 L wr ∧ HTurn T T9 w3 wr ∧ Lists w3.heap.size T9 P (.slice (some ⟨g9, 0, none⟩) P.length c9) (.slice (some ⟨g10, 0, none⟩) P.length c10) wr := ⟨j + 1, T9, by omega, by go_num, HQ.out.1, HQ.out.2.1, HQ.out.2.2⟩
                        have HSK := Lib.hid hSK
                        clear hSK
                        by_cases gb : j < n2
                        · have gb' : decide (n2 ≤ j) = false := decide_eq_false (by omega)
                          obtain ⟨b2, off2, ea2, hlb2, hcs2⟩ := HS2.out.2.2 (by omega)
                          have hcb := HQ.out.2.1.cell (later' H1.out.2.2.2.1 (hcs2 j gb)) (H1.out.2.2.2.2 b2 hlb2)
                          subst ea2
                          clear hcs2
                          cases hkj : kb j with
                          | false =>
                            rw [hkj] at hcb
                            clear hkj
                            go_wp2_with fail
                            exact ⟨HSK.out, by simp [intOf]; omega⟩
                          | true =>
                            rw [hkj] at hcb
                            have hk1 : kp j = true := by rw [HK.out, hkj, decide_eq_true gb, Bool.and_true]
                            have hM1 : M (P[j]).p = 1 := by rw [HMK.out j gj, if_pos ⟨gj, hk1⟩]
                            have hhd := HF.out.1.hd _ (List.getElem_mem gj)
                            rw [hM1] at hhd
                            have hwd := HF.out.1.word _ (List.getElem_mem gj)
                            obtain ⟨jj, -, -, -, hob⟩ := HF.out.1.obj (List.getElem_mem gj)
                            have hn6 := HF.out.1.inv.n6
                            generalize (P[j]).p = pp at *
                            generalize (P[j]).s = ss at *
                            generalize (P[j]).n = nn at *
                            have HC := Lib.hid (And.intro hhd (And.intro hwd hob))
                            have hs0 := hhd.fit.2.1
                            have hs1 := hhd.fit.2.2.1
                            clear hhd hwd hob hM1 hk1 hkj
                            have hg9 : g9 < wr.heap.size := World.block_lt_of_cell? _ _ hc9
                            have hg10 : g10 < wr.heap.size := World.block_lt_of_cell? _ _ hcs
                            go_upto_region 51 with fail
                            go_wp2_with fail
                            refine (cell_any x T9 D2 R7 top 1 L wr HQ.out.1 pp 7 ss nn 1 HC.out.2.2.one (by have := HC.out.2.2.le; omega) HC.out.1).mono ?_
                            rintro e w12 ⟨rfl, hS⟩
                            have hx := (Below.refl w12.heap.size w12).alloc (Nat.le_refl _) (.cells #[.int .i64 7, .int .i64 ss, .int .i64 nn, .int .i64 1] 69)
                            have b1 : (w12.alloc (.cells #[.int .i64 7, .int .i64 ss, .int .i64 nn, .int .i64 1] 69)).cell? ⟨w12.heap.size, 1, none⟩ = some (.int .i64 ss) := by simp [go_sem]
                            have b2 : (w12.alloc (.cells #[.int .i64 7, .int .i64 ss, .int .i64 nn, .int .i64 1] 69)).cell? ⟨w12.heap.size, 2, none⟩ = some (.int .i64 nn) := by simp [go_sem]
                            have b3 : (w12.alloc (.cells #[.int .i64 7, .int .i64 ss, .int .i64 nn, .int .i64 1] 69)).cell? ⟨w12.heap.size, 3, none⟩ = some (.int .i64 1) := by simp [go_sem]
                            replace hc9 := later' hx (hS.2.cell hc9 tg9)
                            replace hcs := later' hx (hS.2.cell hcs tg10)
                            replace hcn := later' hx (hS.2.cell hcn tg10)
                            obtain ⟨r1, r2⟩ := hS.1.retag
                            have tgx : retag T9 w12.heap.size w12.heap.size = 1000 := if_neg (Nat.lt_irrefl _)
                            have H12 := Lib.hid (And.intro (r1.later hx) (And.intro (((HQ.out.2.1.trans hS.2).trans r2).trans (HTurn.of_below hx)) (And.intro (((HQ.out.2.2.turn hS.2).turn r2).turn (HTurn.of_below hx)) tgx)))
                            clear hS hcb hx HQ r1 r2 tgx
                            generalize retag T9 w12.heap.size = TA at *
                            go_upto_region 52 with fail
                            generalize (w12.alloc (.cells #[.int .i64 7, .int .i64 ss, .int .i64 nn, .int .i64 1] 69)) = W at *
                            have u1 : (ss != ss) = false := by simp
                            have u2 : (nn != nn) = false := by simp
                            go_quiet ((go_at_call 31; exact Calls.quiet_of_same (hparity_any x TA D2 R7 top 1 L _ (H12.out.1.later (by first | exact Below.refl _ _ | exact ⟨rfl, rfl, rfl, Nat.le_refl _, fun _ _ => rfl⟩)))))
                            have hd := Ce.below_drewN (Below.refl W.heap.size W) nq
                            replace hc9 := later' hd hc9
                            replace b1 := later' hd b1
                            replace b2 := later' hd b2
                            have H13 := Lib.hid (And.intro (H12.out.1.later hd) (And.intro (H12.out.2.1.trans (HTurn.of_below hd)) (And.intro (H12.out.2.2.1.turn (HTurn.of_below hd)) H12.out.2.2.2)))
                            clear hd H12 b3 hcs hcn u1 u2
                            generalize W.drewN nq = W2 at *
                            by_cases gs : 0 < ss
                            · have e5 : IntKind.i64.wrap (ss - 1) = ss - 1 := by rw [IntKind.wrap_i64]; omega
                              have e6 : IntKind.i64.wrap (1000 + nn) = 1000 + nn := by rw [IntKind.wrap_i64]; omega
                              have hd : Below W2.heap.size W2 W2.drew := ⟨rfl, rfl, rfl, Nat.le_refl _, fun _ _ => rfl⟩
                              have hc9d := later' hd hc9
                              have b1d := later' hd b1
                              have b2d := later' hd b2
                              have H14 := Lib.hid (And.intro (H13.out.1.later hd) (And.intro (H13.out.2.1.trans (HTurn.of_below hd)) (And.intro (H13.out.2.2.1.turn (HTurn.of_below hd)) H13.out.2.2.2)))
                              have HGT := Lib.hid (get_in x TA D2 R7 top 1 L W2.drew H14.out.1 pp 7 ss nn 1 HC.out.2.2.one HC.out.2.2.le hn6 HC.out.1 (ss - 1) ⟨by omega, by omega⟩)
                              have hwd := HC.out.2.1 gs
                              clear hd H13
                              go_upto_region 55 with fail
                              obtain ⟨gq, hgq, tgA, -⟩ := H14.out.2.2.1.at9 gj
                              cases hgq
                              have tgB := H14.out.2.2.2
                              go_region_held3 (fun W' => W'.cell? ⟨g9, j, none⟩ = some (.int .i64 pp) ∧ W'.cell? ⟨w12.heap.size, 1, none⟩ = some (.int .i64 ss))
                                (first | exact ⟨hc9d, b1d⟩ | exact ⟨hc9e, b1e⟩)
                                (first | (go_at_call 32; refine HGT.out.mono ?_; rintro e W3 ⟨rfl, hS3⟩; have hc9e := hS3.2.cell hc9d tgA; have b1e := hS3.2.cell b1d tgB; have b2e := hS3.2.cell b2d tgB; have H15 := Lib.hid (And.intro hS3.1 (And.intro (H14.out.2.1.trans hS3.2) (H14.out.2.2.1.turn hS3.2))); clear hS3 HGT))
                              clear hc9d b1d b2d hc9 b1 b2 hc9e b1e
                              go_wp2_with fail
                              exact ⟨⟨j + 1, TA, by omega, by go_num, H15.out.1, H15.out.2.1, H15.out.2.2⟩, by simp [intOf]; omega⟩
                            · have gs' : decide (0 < ss) = false := decide_eq_false gs
                              go_wp2_with fail
                              exact ⟨⟨j + 1, TA, by omega, by go_num, H13.out.1, H13.out.2.1, H13.out.2.2.1⟩, by simp [intOf]; omega⟩
                        · have gb' : decide (n2 ≤ j) = true := decide_eq_true (by omega)
                          go_wp2_with fail
                          exact ⟨HSK.out, by simp [intOf]; omega⟩
                      · obtain rfl : j = P.length := by omega
                        go_wp2_with fail
                        go_ret
                        exact ⟨rfl, H1.out.2.2.1.trans (HQ.out.2.1.below (fun b hb => H1.out.2.2.2.2 b (by omega)) (by omega))⟩

end Go.Proofs.Ythcgmfcibjinlaa
