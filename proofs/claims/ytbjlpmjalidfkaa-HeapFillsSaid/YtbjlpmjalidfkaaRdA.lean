/- A ring by its rows and its arena's words: which words a call leaves as they are. -/
import Derived.Test.YtbjlpmjalidfkaaRiF
namespace Go.Proofs.Ytbjlpmjalidfkaa
open Go.RowKit

/-- The words that are a ring's links. -/
def Links (R : Rows) (j : Nat) : Prop := ∃ x, x ∈ R.all ∧ ((j : Int) = x + 1 ∨ (j : Int) = x + 2)
/-- No other word has turned. -/
def SameBut (R : Rows) (D D' : Nat → Int) : Prop := ∀ j, ¬ Links R j → D' j = D j
theorem SameBut.refl (R : Rows) (D : Nat → Int) : SameBut R D D := fun _ _ => rfl
theorem SameBut.trans {R : Rows} {a b c : Nat → Int} (h : SameBut R a b) (k : SameBut R b c) : SameBut R a c := fun j hj => (k j hj).trans (h j hj)

theorem same_join {D : Nat → Int} {a b : Int} {j : Nat} (ha : 0 ≤ a) (hb : 0 ≤ b) (h1 : (j : Int) ≠ a + 1) (h2 : (j : Int) ≠ b + 2) : join D a b j = D j := by
  unfold join put
  rw [if_neg (by omega), if_neg (by omega)]
theorem same_inserted {D : Nat → Int} {n : Nat} {c : Int} {l : List Int} {R : Rows} (hc : Cyc D l) (hf : Fit n (c :: l)) (hR : ∀ x, x ∈ c :: l → x ∈ R.all) : SameBut R D (inserted D c (l.headD 0)) := by
  intro j hj
  have hn : ∀ x, x ∈ c :: l → (j : Int) ≠ x + 1 ∧ (j : Int) ≠ x + 2 := fun x hx => ⟨fun e => hj ⟨x, hR x hx, Or.inl e⟩, fun e => hj ⟨x, hR x hx, Or.inr e⟩⟩
  have hr : ∀ x, x ∈ c :: l → 0 ≤ x := fun x hx => by have := hf.rng x hx; omega
  have c1 := hn c (by simp)
  have c0 := hr c (by simp)
  cases l with
  | nil =>
    simp only [List.headD_nil, inserted]
    exact same_join c0 c0 c1.1 c1.2
  | cons x l =>
    obtain ⟨z, hz, e, -⟩ := cyc_insert hc hf
    have x0 := hf.rng x (by simp)
    have z0 := hr z (List.mem_cons_of_mem _ hz)
    have z1 := hn z (List.mem_cons_of_mem _ hz)
    have x1 := hn x (by simp)
    have hx : ¬ x = 0 := by omega
    have ei : inserted D c x = join (join D (D (x + 2).toNat) c) c x := if_neg hx
    rw [List.headD_cons, ei, e, same_join c0 (by omega) c1.1 x1.2, same_join z0 c0 z1.1 c1.2]
theorem same_removed {D : Nat → Int} {n : Nat} {c : Int} {l : List Int} {R : Rows} (hc : Cyc D (c :: l)) (hf : Fit n (c :: l)) (hR : ∀ x, x ∈ c :: l → x ∈ R.all) : SameBut R D (removed D c) := by
  intro j hj
  have hn : ∀ x, x ∈ c :: l → (j : Int) ≠ x + 1 ∧ (j : Int) ≠ x + 2 := fun x hx => ⟨fun e => hj ⟨x, hR x hx, Or.inl e⟩, fun e => hj ⟨x, hR x hx, Or.inr e⟩⟩
  have hr : ∀ x, x ∈ c :: l → 0 ≤ x := fun x hx => by have := hf.rng x hx; omega
  cases l with
  | nil =>
    have c1 := hn c (by simp)
    have c0 := hr c (by simp)
    unfold removed
    rw [(cyc_one hc).1, (cyc_one hc).2]
    exact same_join c0 c0 c1.1 c1.2
  | cons y l =>
    obtain ⟨z, hz, e, -⟩ := cyc_remove hc hf
    have z0 := hr z (List.mem_cons_of_mem _ hz)
    have z1 := hn z (List.mem_cons_of_mem _ hz)
    have y0 := hr y (by simp)
    have y1 := hn y (by simp)
    unfold removed
    rw [cyc_next hc, e]
    exact same_join z0 y0 z1.1 y1.2

/-- A RING, BY ITS ROWS AND ITS ARENA's WORDS. -/
def RingD (s : Spot) (R : Rows) (D : Nat → Int) (w : World) : Prop := ∃ C F, Lies s C F D w ∧ Inv s.n D C F R
theorem RingD.ring {s : Spot} {R : Rows} {D : Nat → Int} {w : World} (h : RingD s R D w) : Ring s R w := by
  obtain ⟨C, F, h1, h2⟩ := h
  exact ⟨C, F, D, h1, h2⟩
theorem RingD.later {s : Spot} {R : Rows} {D : Nat → Int} {w w' : World} (h : RingD s R D w) (hb : Below w.heap.size w w') : RingD s R D w' := by
  obtain ⟨C, F, h1, h2⟩ := h
  exact ⟨C, F, h1.later hb, h2⟩
theorem RingD.fit {s : Spot} {R : Rows} {D : Nat → Int} {w : World} (h : RingD s R D w) : Fit s.n R.all := by
  obtain ⟨C, F, h1, h2⟩ := h
  exact h2.fit
theorem RingD.at {s : Spot} {R : Rows} {D : Nat → Int} {w : World} (h : RingD s R D w) : ∃ u, At w s.p s.d s.n D u := by
  obtain ⟨C, F, h1, h2⟩ := h
  exact h1.words
/-- A ring's links alone tell of it: whatever else turns in the arena. -/
theorem cyc_same {D D' : Nat → Int} {l : List Int} (hr : ∀ x, x ∈ l → 0 ≤ x) (hD : ∀ x, x ∈ l → D' (x + 1).toNat = D (x + 1).toNat ∧ D' (x + 2).toNat = D (x + 2).toNat) (hc : Cyc D l) : Cyc D' l := by
  have key : ∀ m : List Int, (∀ x, x ∈ m → x ∈ l) → Chain D m → Chain D' m := by
    intro m
    induction m with
    | nil => exact fun _ h => h
    | cons x m ih =>
      intro hm hC
      cases m with
      | nil => trivial
      | cons y m =>
        refine ⟨⟨(hD x (hm x (by simp))).1.trans hC.1.1, (hD y (hm y (by simp))).2.trans hC.1.2⟩, ih (fun z hz => hm z (List.mem_cons_of_mem _ hz)) hC.2⟩
  cases l with
  | nil => trivial
  | cons x l => exact key _ (fun z hz => by simp only [List.mem_cons, List.mem_append, List.not_mem_nil, or_false] at hz ⊢; rcases hz with h | h | h <;> simp [h]) hc

/-- A ring's struct and its closures' boxes stand, its arena lies anew: so it lies on. -/
theorem Lies.anew {s : Spot} {C F D D' : Nat → Int} {w w' : World} (h : Lies s C F D w) (_ : w.heap.size ≤ w'.heap.size) (hk : ∀ b, b = s.r ∨ b = s.a1 ∨ b = s.n1 ∨ b = s.a2 ∨ b = s.n2 → w'.heap[b]? = w.heap[b]?) (hA : ∃ u, At w' s.p s.d s.n D' u) : Lies s C F D' w' := by
  have o : ∀ b j v, (b = s.r ∨ b = s.a1 ∨ b = s.n1 ∨ b = s.a2 ∨ b = s.n2) → w.cell? ⟨b, j, none⟩ = some v → w'.cell? ⟨b, j, none⟩ = some v := fun b j v hb hv => (World.cell?_of_block (w := w) (hk b hb)).trans hv
  exact ⟨o _ _ _ (by simp) h.arena, o _ _ _ (by simp) h.nof, o _ _ _ (by simp) h.nset, o _ _ _ (by simp) h.lof, o _ _ _ (by simp) h.lset, fun k g => o _ _ _ (by simp) (h.count k g), fun k g => o _ _ _ (by simp) (h.first k g),
    fun j => (World.frozen?_of_block (w := w) (hk _ (by simp))).trans (h.fz j), o _ _ _ (by simp) h.ba1, o _ _ _ (by simp) h.bn1, o _ _ _ (by simp) h.ba2, o _ _ _ (by simp) h.bn2, hA, h.nb, h.rp, h.rd, h.a1', h.n1', h.a2', h.n2'⟩
theorem RingD.anew {s : Spot} {R : Rows} {D D' : Nat → Int} {w w' : World} (h : RingD s R D w) (hs : w.heap.size ≤ w'.heap.size) (hk : ∀ b, b = s.r ∨ b = s.a1 ∨ b = s.n1 ∨ b = s.a2 ∨ b = s.n2 → w'.heap[b]? = w.heap[b]?) (hA : ∃ u, At w' s.p s.d s.n D' u)
    (hD : ∀ j, Links R j → D' j = D j) : RingD s R D' w' := by
  obtain ⟨C, F, h1, h2⟩ := h
  refine ⟨C, F, h1.anew hs hk hA, ⟨h2.c0, h2.c1, h2.c2, h2.c3, h2.f0, h2.f1, h2.f2, h2.f3, cyc_same (fun x hx => by have := h2.fit.rng x hx; omega) (fun x hx => ?_) h2.cyc, h2.fit, h2.small⟩⟩
  have := h2.fit.rng x hx
  exact ⟨hD _ ⟨x, hx, Or.inl (by omega)⟩, hD _ ⟨x, hx, Or.inr (by omega)⟩⟩

end Go.Proofs.Ytbjlpmjalidfkaa
