/- Tokens that were told, read again; the law's example; bounds of lines. -/
import Derived.Test.YtkeeglpbhjnmdaaDoorLxK
namespace Go.Proofs.YtkeeglpbhjnmdaaDoor
open Go.RowKit Go.Lib

theorem flatT_get : ∀ {T : List (Tk × Int)} {q : Nat} (hq : q < T.length), (flatT T)[q * 5]? = some (.int .i64 (T[q]).1.k) ∧ (flatT T)[q * 5 + 1]? = some (.string ⟨(T[q]).1.t.toArray⟩) ∧ (flatT T)[q * 5 + 2]? = some (.bool (T[q]).1.f) ∧ (flatT T)[q * 5 + 3]? = some (.int .u64 (T[q]).1.x) ∧ (flatT T)[q * 5 + 4]? = some (.int .i64 (T[q]).2)
  | [], q, hq => by cases hq
  | x :: T, 0, _ => ⟨rfl, rfl, rfl, rfl, rfl⟩
  | x :: T, q + 1, hq => by
    obtain ⟨h0, h1, h2, h3, h4⟩ := flatT_get (T := T) (q := q) (by simpa using hq)
    have e : ∀ c, (flatT (x :: T))[(q + 1) * 5 + c]? = (flatT T)[q * 5 + c]? := fun c => by
      rw [show (q + 1) * 5 + c = (q * 5 + c) + 1 + 1 + 1 + 1 + 1 by omega]
      simp [flatT]
    have e0 := e 0
    simp only [Nat.add_zero] at e0
    exact ⟨e0.trans h0, (e 1).trans h1, (e 2).trans h2, (e 3).trans h3, (e 4).trans h4⟩

/-- A token as it lies. -/
structure TokAt (W : World) (g : Nat) (j : Nat) (x : Tk × Int) : Prop where
  c0 : W.cell? ⟨g, j * 5, none⟩ = some (.int .i64 x.1.k)
  c1 : W.cell? ⟨g, j * 5 + 1, none⟩ = some (.string ⟨x.1.t.toArray⟩)
  c2 : W.cell? ⟨g, j * 5 + 2, none⟩ = some (.bool x.1.f)
  c3 : W.cell? ⟨g, j * 5 + 3, none⟩ = some (.int .u64 x.1.x)
  c4 : W.cell? ⟨g, j * 5 + 4, none⟩ = some (.int .i64 x.2)
theorem TokAt.later {W W' : World} {g j : Nat} {x : Tk × Int} (h : TokAt W g j x) (hb : Below W.heap.size W W') : TokAt W' g j x := ⟨later' hb h.c0, later' hb h.c1, later' hb h.c2, later' hb h.c3, later' hb h.c4⟩
theorem own_tok {W : World} {base : Nat} {a : Option Addr} {n c : Nat} {T : List (Tk × Int)} (h : W.ownsRow base 35 5 (.slice a n c) T.length (flatT T)) {j : Nat} (hj : j < T.length) : ∃ g, a = some ⟨g, 0, none⟩ ∧ TokAt W g j T[j] := by
  rcases h.2 with ⟨e, e2⟩ | ⟨g, cap, cur, e, -⟩
  · omega
  · cases e
    obtain ⟨f0, f1, f2, f3, f4⟩ := flatT_get hj
    have k : ∀ i v, (flatT T)[i]? = some v → W.cell? ⟨g, i, none⟩ = some v := fun i v hv => by
      have := h.cells rfl i v hv
      rw [Addr.add_lit] at this
      simpa using this
    exact ⟨g, rfl, k _ _ f0, k _ _ f1, k _ _ f2, k _ _ f3, k _ _ f4⟩
theorem own_n {W : World} {base : Nat} {a : Option Addr} {n c : Nat} {T : List (Tk × Int)} (h : W.ownsRow base 35 5 (.slice a n c) T.length (flatT T)) : n = T.length := by
  rcases h.2 with ⟨e, e2⟩ | ⟨g, cap, cur, e, -⟩
  · cases e; exact e2.symm
  · cases e; rfl

set_option maxHeartbeats 4000000 in
set_option maxRecDepth 100000 in
theorem lawake_any (w : World) (hS : SG w) (hE : EE w) : Calls Tryd.prog 9 #[] w fun e w' => e = .returned (.bool true) ∧ Below w.heap.size w w' := by
  have HL := Lib.hid (lex_any exB (by decide) w hS hE)
  clear hS hE
  go_enter Tryd.func9, Tryd.ntmps9
  go_wp2_with fail
  refine HL.out.mono ?_
  rw [ex_lex]
  rintro e w2 ⟨hb, a, n, c, rfl, hown⟩
  obtain rfl : n = 6 := own_n hown
  obtain ⟨g, rfl, h2⟩ := own_tok hown (j := 2) (by decide)
  obtain ⟨g', e, h4⟩ := own_tok hown (j := 4) (by decide)
  cases e
  obtain ⟨g', e, h5⟩ := own_tok hown (j := 5) (by decide)
  cases e
  have k2 := h2.c0
  have k4 := h4.c1
  have k5 := h5.c3
  simp only [exT, List.getElem_cons_succ, List.getElem_cons_zero, Nat.reduceMul, Nat.reduceAdd] at k2 k4 k5
  have HB := Lib.hid hb
  clear hb hown h2 h4 h5 HL
  go_wp2_with fail
  go_ret
  exact ⟨rfl, HB.out⟩

/-- Lines are within bounds. -/
def Bd (B : Int) : Res → Prop
  | .good T => ∀ x, x ∈ T → 0 ≤ x.2 ∧ x.2 ≤ B
  | .bad _ l => 0 ≤ l ∧ l ≤ B
theorem lexA_bd (B : Int) : ∀ (f : Nat) (l : List UInt8) (line : Int) (acc : List (Tk × Int)), 0 ≤ line → line + l.length ≤ B → (∀ x, x ∈ acc → 0 ≤ x.2 ∧ x.2 ≤ B) → Bd B (lexA f l line acc)
  | 0, l, line, acc, _, _, ha => by unfold lexA; exact ha
  | f + 1, [], line, acc, _, _, ha => by unfold lexA; exact ha
  | f + 1, c :: r, line, acc, h0, h1, ha => by
    simp only [List.length_cons] at h1
    unfold lexA
    split
    · exact lexA_bd B f _ _ _ (by omega) (by omega) ha
    · split
      · exact lexA_bd B f _ _ _ h0 (by omega) ha
      · split
        · split
          · exact ha
          · exact lexA_bd B f _ _ _ h0 (by rw [List.length_drop, List.length_cons]; omega) ha
        · split
          · split
            · exact ⟨h0, by omega⟩
            · refine lexA_bd B f _ _ _ h0 (by rw [List.length_drop, List.length_cons]; omega) fun x hx => ?_
              rcases List.mem_append.1 hx with hx | hx
              · exact ha x hx
              · rw [List.mem_singleton] at hx
                subst hx
                exact ⟨h0, by omega⟩
          · exact ⟨h0, by omega⟩
theorem lexL_bd (l : List UInt8) : Bd (1 + l.length) (lexL l) := lexA_bd _ _ _ _ _ (by omega) (by omega) (fun x hx => by cases hx)

end Go.Proofs.YtkeeglpbhjnmdaaDoor
