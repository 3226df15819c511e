/- What a take gives, in one shape; what holds of the cells behind it. -/
import Derived.Test.YtbjlpmjalidfkaaHpG
namespace Go.Proofs.Ytbjlpmjalidfkaa
open Go.RowKit

/-- Which cell an object is given. -/
inductive AllocP (x : HSpot) (R : Nat → Rows) (top : Int) (L : List (Int × Int)) (size at' : Int) (R' : Nat → Rows) (top' : Int) (M : List (Int × Int)) : Prop
  | white (i : Nat) (hC : Cls x.sz x.k size i) (hi : i < x.k) (l : List Int) (hw : (R i).white = at' :: l) (hR : R' = put1 R i (R i).alloc) (ht : top' = top) (hM : M = L)
  | fresh (i : Nat) (hC : Cls x.sz x.k size i) (hi : i < x.k) (hw : (R i).white = []) (hr : top + x.sz i + 3 ≤ x.lim) (ha : at' = top) (hR : R' = put1 R i ((R i).grow at').alloc) (ht : top' = top + x.sz i + 3) (hM : M = L)
  | big (hC : Cls x.sz x.k size x.k) (he : Ex.tErr (size + 3) L = 0) (ha : at' = Ex.tAt (size + 3) L) (hR : R' = put1 R x.k ((R x.k).grow at').alloc) (ht : top' = top) (hM : Ex.Took x.lim (x.lim + (x.n - x.lim : Int)) (size + 3) L M)
/-- There is no cell for it. -/
def FullP (x : HSpot) (R : Nat → Rows) (top : Int) (L : List (Int × Int)) (size : Int) : Prop :=
  (∃ i, Cls x.sz x.k size i ∧ i < x.k ∧ (R i).white = [] ∧ x.lim < top + x.sz i + 3) ∨ (Cls x.sz x.k size x.k ∧ Ex.tErr (size + 3) L ≠ 0)

theorem grown_mem {R : Rows} {c a : Int} : a ∈ (R.grow c).alloc.all ↔ a = c ∨ a ∈ R.all := by
  unfold Rows.all Rows.alloc Rows.grow
  simp only [List.tail_cons, List.take_succ_cons, List.take_zero, List.mem_append, List.mem_cons, List.not_mem_nil, or_false]
  constructor
  · rintro (h | h | h | h | h)
    · exact Or.inr (Or.inl h)
    · exact Or.inr (Or.inr (Or.inl h))
    · exact Or.inr (Or.inr (Or.inr (Or.inl h)))
    · exact Or.inr (Or.inr (Or.inr (Or.inr h)))
    · exact Or.inl h
  · rintro (h | h | h | h | h)
    · exact Or.inr (Or.inr (Or.inr (Or.inr h)))
    · exact Or.inl h
    · exact Or.inr (Or.inl h)
    · exact Or.inr (Or.inr (Or.inl h))
    · exact Or.inr (Or.inr (Or.inr (Or.inl h)))
theorem alloced_mem {R : Rows} {c a : Int} {l : List Int} (hw : R.white = c :: l) : a ∈ R.alloc.all ↔ a ∈ R.all := by
  unfold Rows.all Rows.alloc
  rw [hw]
  simp only [List.tail_cons, List.take_succ_cons, List.take_zero, List.mem_append, List.mem_cons, List.not_mem_nil, or_false]
  constructor
  · rintro (h | h | h | h | h)
    · exact Or.inl (Or.inr h)
    · exact Or.inr (Or.inl h)
    · exact Or.inr (Or.inr (Or.inl h))
    · exact Or.inr (Or.inr (Or.inr h))
    · exact Or.inl (Or.inl h)
  · rintro ((h | h) | h | h | h)
    · exact Or.inr (Or.inr (Or.inr (Or.inr h)))
    · exact Or.inl h
    · exact Or.inr (Or.inl h)
    · exact Or.inr (Or.inr (Or.inl h))
    · exact Or.inr (Or.inr (Or.inr (Or.inl h)))
theorem grown_len {R : Rows} {c : Int} : (R.grow c).alloc.all.length = R.all.length + 1 := by
  unfold Rows.all Rows.alloc Rows.grow
  simp
  omega
theorem alloced_len {R : Rows} {c : Int} {l : List Int} (hw : R.white = c :: l) : R.alloc.all.length = R.all.length := by
  unfold Rows.all Rows.alloc
  rw [hw]
  simp
  omega

/-- Which ring has it, and which cells there are. -/
theorem AllocP.cells {x : HSpot} {R : Nat → Rows} {top : Int} {L : List (Int × Int)} {size at' : Int} {R' : Nat → Rows} {top' : Int} {M : List (Int × Int)} (h : AllocP x R top L size at' R' top' M) :
    ∃ i, i ≤ x.k ∧ Cls x.sz x.k size i ∧ at' ∈ (R' i).all ∧ (∀ j, j ≠ i → R' j = R j) ∧ (∀ a, a ∈ (R' i).all ↔ a = at' ∨ a ∈ (R i).all) ∧ (R' i).all.length ≤ (R i).all.length + 1 := by
  cases h with
  | white i hC hi l hw hR ht hM =>
    have e : R' i = (R i).alloc := by rw [hR]; exact if_pos rfl
    have hm : at' ∈ (R i).all := List.mem_append_left _ (by rw [hw]; exact List.mem_cons_self ..)
    refine ⟨i, Nat.le_of_lt hi, hC, ?_, fun j hj => by rw [hR]; exact if_neg hj, fun a => ?_, ?_⟩
    · rw [e, alloced_mem hw]; exact hm
    · rw [e, alloced_mem hw]
      exact ⟨Or.inr, fun h => h.elim (fun e => e ▸ hm) id⟩
    · rw [e, alloced_len hw]; omega
  | fresh i hC hi hw hr ha hR ht hM =>
    have e : R' i = ((R i).grow at').alloc := by rw [hR]; exact if_pos rfl
    refine ⟨i, Nat.le_of_lt hi, hC, ?_, fun j hj => by rw [hR]; exact if_neg hj, fun a => ?_, ?_⟩
    · rw [e, grown_mem]; exact Or.inl rfl
    · rw [e, grown_mem]
    · rw [e, grown_len]; omega
  | big hC he ha hR ht hM =>
    have e : R' x.k = ((R x.k).grow at').alloc := by rw [hR]; exact if_pos rfl
    refine ⟨x.k, Nat.le_refl _, hC, ?_, fun j hj => by rw [hR]; exact if_neg hj, fun a => ?_, ?_⟩
    · rw [e, grown_mem]; exact Or.inl rfl
    · rw [e, grown_mem]
    · rw [e, grown_len]; omega

/-- What a take gives, in one shape. -/
def Gets (x : HSpot) (T : Nat → Nat) (D : Nat → Int) (R : Nat → Rows) (top par : Int) (L : List (Int × Int)) (size : Int) (w : World) (e : Ending) (w' : World) : Prop :=
  (∃ (at' : Int) (T' : Nat → Nat) (D1 : Nat → Int) (R' : Nat → Rows) (top' : Int) (M : List (Int × Int)), e = .returned (.tuple #[.int .i64 at', .int .i64 0]) ∧ HLies x T' D1 R' top' par M w' ∧ HTurn T T' w w' ∧
    AllocP x R top L size at' R' top' M ∧ ∀ m, (∀ i, i ≤ x.k → ¬ Links (R' i) m) → D1 m = D m) ∨
  (∃ T', e = .returned (.tuple #[.int .i64 0, .int .i64 2]) ∧ HLies x T' D R top par L w' ∧ HTurn T T' w w' ∧ FullP x R top L size)
theorem Taken.gets {x : HSpot} {T : Nat → Nat} {D : Nat → Int} {R : Nat → Rows} {top par : Int} {L : List (Int × Int)} {size : Int} {w : World} {e : Ending} {w' : World} (hs : 0 ≤ size) (h : Taken x T D R top par L size w e w') : Gets x T D R top par L size w e w' := by
  cases h with
  | small i hC hi h =>
    cases h with
    | white c l hw he h ht => exact Or.inl ⟨c, T, D, _, _, _, he, h, ht, .white i hC hi l hw rfl rfl rfl, fun _ _ => rfl⟩
    | fresh D' hw hr he h hD ht =>
      refine Or.inl ⟨top, T, D', _, _, _, he, h, ht, .fresh i hC hi hw hr rfl rfl rfl rfl, fun m hm => hD m ?_⟩
      have := hm i (by omega)
      unfold put1 at this
      rw [if_pos rfl] at this
      rintro ⟨a, ha, h2⟩
      exact this ⟨a, grown_mem.2 (List.mem_cons.1 (show a ∈ top :: (R i).all from ha)), h2⟩
    | full hw hr he h ht => exact Or.inr ⟨T, he, h, ht, Or.inl ⟨i, hC, hi, hw, hr⟩⟩
  | big hC he T' D' M hr h hD hM ht =>
    refine Or.inl ⟨_, T', D', _, _, _, hr, h, ht, .big hC he rfl rfl rfl hM, fun m hm => hD m ?_⟩
    have := hm x.k (Nat.le_refl _)
    unfold put1 at this
    rw [if_pos rfl] at this
    rintro ⟨a, ha, h2⟩
    exact this ⟨a, grown_mem.2 (List.mem_cons.1 (show a ∈ _ :: (R x.k).all from ha)), h2⟩
  | none hC he T' hr h ht =>
    refine Or.inr ⟨T', ?_, h, ht, Or.inr ⟨hC, he⟩⟩
    rw [hr]
    unfold Ex.tErr at he ⊢
    unfold Ex.tAt
    rw [if_neg (by omega)] at he ⊢
    rw [if_neg (by omega)]
    cases hsp : Ex.spot (size + 3) L with
    | none => rfl
    | some a => rw [hsp] at he; exact absurd rfl he

/-- How large the new cell is, and where it may lie. -/
theorem AllocP.room {x : HSpot} {D : Nat → Int} {R : Nat → Rows} {top : Int} {L : List (Int × Int)} {size at' : Int} {R' : Nat → Rows} {top' : Int} {M : List (Int × Int)} (h : AllocP x R top L size at' R' top' M) (hI : HInv x D R top L) (hG : Ex.Good x.lim (x.lim + (x.n - x.lim : Int)) L) (hs : 0 ≤ size) :
    1 ≤ at' ∧ at' + size + 3 ≤ x.n ∧ ∀ i, i ≤ x.k → ∀ c, c ∈ (R' i).all → c = at' ∨ c + 3 ≤ at' ∨ at' + size + 3 ≤ c := by
  have t0 := hI.t0
  have t1 := hI.t1
  have ln := hI.ln
  cases h with
  | white i hC hi l hw hR ht hM =>
    have hm : at' ∈ (R i).all := List.mem_append_left _ (by rw [hw]; exact List.mem_cons_self ..)
    have h1 := hI.cell i hi at' hm
    have h2 := hC.fits hi
    refine ⟨hI.one i (by omega) at' hm, by omega, fun j hj c hc => ?_⟩
    have hc' : c ∈ (R j).all := by
      rw [hR] at hc
      unfold put1 at hc
      by_cases e : j = i
      · rw [if_pos e, alloced_mem hw] at hc
        rw [e]; exact hc
      · rwa [if_neg e] at hc
    by_cases e : c = at'
    · exact Or.inl e
    · have h3 := hI.apart j hj i (by omega) c hc' at' hm (fun _ => e)
      have h4 := wid_three hI j c
      have h5 : wid x D i at' = x.sz i + 3 := by unfold wid; rw [if_pos hi]
      omega
  | fresh i hC hi hw hr ha hR ht hM =>
    have h2 := hC.fits hi
    refine ⟨by omega, by omega, fun j hj c hc => ?_⟩
    rw [hR] at hc
    unfold put1 at hc
    have key : ∀ j, j ≤ x.k → c ∈ (R j).all → c = at' ∨ c + 3 ≤ at' ∨ at' + size + 3 ≤ c := fun j hj hc => by
      by_cases ek : j = x.k
      · subst ek
        have := (hI.big c hc).1
        omega
      · have := hI.cell j (by omega) c hc
        have := hI.sz j (by omega)
        omega
    by_cases e : j = i
    · rw [if_pos e, grown_mem] at hc
      rcases hc with hc | hc
      · exact Or.inl hc
      · exact key i (by omega) hc
    · rw [if_neg e] at hc
      exact key j hj hc
  | big hC he ha hR ht hM =>
    obtain ⟨s1, s2, s3⟩ := spot_cov hG (by omega) he
    rw [← ha] at s1 s2 s3
    refine ⟨by omega, by omega, fun j hj c hc => ?_⟩
    rw [hR] at hc
    unfold put1 at hc
    have key : c ∈ (R x.k).all → c = at' ∨ c + 3 ≤ at' ∨ at' + size + 3 ≤ c := fun hc => by
      have h1 := (hI.big c hc).2.2
      have h2 := wid_three hI x.k c
      by_cases q1 : c < at'
      · by_cases q2 : c + 3 ≤ at'
        · exact Or.inr (Or.inl q2)
        · exact absurd (s3 at' (by omega) (by omega)) (h1 at' (by omega) (by omega))
      · by_cases q2 : at' + size + 3 ≤ c
        · exact Or.inr (Or.inr q2)
        · exact absurd (s3 c (by omega) (by omega)) (h1 c (by omega) (by omega))
    by_cases e : j = x.k
    · rw [if_pos e, grown_mem] at hc
      rcases hc with hc | hc
      · exact Or.inl hc
      · exact key hc
    · rw [if_neg e] at hc
      have := hI.cell j (by omega) c hc
      have := hI.sz j (by omega)
      omega

end Go.Proofs.Ytbjlpmjalidfkaa
