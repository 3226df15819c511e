import Derived.RegionDies
import Derived.Test.YtdjcdecbmeickaaMg1
import Derived.Test.YtdjcdecbmeickaaMg2
namespace Go.Proofs.Ytdjcdecbmeickaa
set_option maxHeartbeats 64000000
set_option maxRecDepth 100000
open Go.RowKit Go.Lib
theorem begins_iff {rest : List Tok} (hv : Tvs rest) : begins rest ↔ shapeL rest ∈ atomShapes := by
  unfold begins atomShapes
  rw [kind_shape (by decide) (by decide), kind_shape (by decide) (by decide), kind_shape (by decide) (by decide), kind_shape (by decide) (by decide), sees_sign (by unfold Sm; decide) hv]
  simp only [List.mem_cons, List.not_mem_nil, or_false, sName, sCon, sNum, sBack, sOpen]
  constructor
  · rintro (h | h | h | h | h) <;> simp [h]
  · rintro (h | h | h | h | h) <;> simp [h]
theorem tok_take {ll k last : Int} {rest : List Tok} (h0 : k ≠ 0) (hk : kindL rest = k) (hl : lastOf last rest = ll) (hv : Tvs rest) {β : Type} {f : Tok → Int → List Tok → Out β} {d : β × St}
    (h : ∀ y r, rest = y :: r → tokD ll k ⟨rest, 0, 0⟩ = (y, ⟨r, 0, 0⟩) → lastOf y.2 r = ll → Tvs r → Ag ll (f y y.2 r) d) : Ag ll ((takeO last rest).bind f) d := by
  obtain ⟨y, r, rfl, ht⟩ := tok_ok (ll := ll) h0 hk
  exact h y r rfl ht hl hv.tail
theorem atom_sim {ll : Int} {ex : Par Ex} {dx : Dp Ex} (hx : Sim ll ex dx) {last : Int} {rest : List Tok} (hl : lastOf last rest = ll) (hv : Tvs rest) (hb : begins rest) : Ag ll (atomO ex last rest) (atomD ll dx ⟨rest, 0, 0⟩) := by
  unfold atomO atomD
  have k1 := kName rest
  have k2 := kCon rest
  have k3 := kNum rest
  have k7 := kBack rest
  by_cases g1 : kindL rest = 1
  · rw [if_pos (k1.1 g1), if_pos g1]
    refine tok_take (by decide) g1 hl hv fun y r e ht hl hv => ?_
    rw [ht]
    exact .done rfl hl hv
  rw [if_neg (fun h => g1 (k1.2 h)), if_neg g1]
  by_cases g2 : kindL rest = 2
  · rw [if_pos (k2.1 g2), if_pos g2]
    refine tok_take (by decide) g2 hl hv fun y r e ht hl hv => ?_
    rw [ht]
    exact .done rfl hl hv
  rw [if_neg (fun h => g2 (k2.2 h)), if_neg g2]
  by_cases g3 : kindL rest = 3
  · rw [if_pos (k3.1 g3), if_neg (by rw [g3]; decide), if_pos g3]
    refine tok_take (by decide) g3 hl hv fun y r e ht hl hv => ?_
    rw [ht]
    exact .done rfl hl hv
  rw [if_neg (fun h => g3 (k3.2 h))]
  by_cases g7 : kindL rest = 7
  · rw [if_pos (k7.1 g7), if_pos g7]
    refine tok_take (by decide) g7 hl hv fun y r e ht hl hv => ?_
    rw [ht]
    exact .done rfl hl hv
  rw [if_neg (fun h => g7 (k7.2 h)), if_neg g7, if_neg g3]
  have hs : shapeL rest = sOpen := by
    rcases hb with h | h | h | h | h
    · exact absurd h g1
    · exact absurd h g2
    · exact absurd h g7
    · exact absurd h g3
    · exact (sees_sign (by unfold Sm; decide) hv).1 h
  rw [if_pos hs]
  unfold innerO wantO
  rw [if_pos hs]
  obtain ⟨y, q, rfl⟩ := take_of hs (by decide)
  simp only [takeO, Out.bind]
  rw [show (St.next ⟨y :: q, 0, 0⟩) = ⟨q, 0, 0⟩ from rfl]
  refine (hx y.2 q hl hv.tail).of (fun a l r ho hs hl hv => ?_) (fun he => by rw [need_dead he]; exact ⟨rfl, rfl⟩)
  rw [hs]
  refine (want_ag (sh := sShut) (t := [41]) (by decide) (sees_sign (by unfold Sm; decide) hv) hl hv).of (fun a2 l2 r2 ho hs hl hv => ?_) (fun he => ⟨rfl, rfl⟩)
  rw [hs]
  exact .done rfl hl hv
theorem atoms_sim {ll : Int} {ex : Par Ex} {dx : Dp Ex} (hx : Sim ll ex dx) (hsh : Shrinks ex) : ∀ (nO nD : Nat) (acc pre : List Ex) (last : Int) (rest : List Tok), rest.length < nO → rest.length < nD → lastOf last rest = ll → Tvs rest →
    Ag ll ((atomsO ex nO acc last rest).bind fun xs l r => .ok (pre ++ xs) l r) (atomsD ll dx nD (pre ++ acc) ⟨rest, 0, 0⟩)
  | nO + 1, nD + 1, acc, pre, last, rest, hO, hD, hl, hv => by
    unfold atomsO atomsD
    by_cases g : begins rest
    · rw [if_pos ((begins_iff hv).1 g), if_pos ⟨rfl, g⟩]
      have ha := atom_sim hx hl hv g
      cases ho : atomO ex last rest with
      | bad e ln =>
        rw [ho] at ha
        obtain ⟨h1, h2, h3⟩ := ha
        rw [atoms_dead _ _ (by rw [h2]; exact h1)]
        exact ⟨h1, h2, h3⟩
      | ok a l r =>
        have hst := atom_strict hsh ho
        rw [ho] at ha
        obtain ⟨h1, h2, h3⟩ := ha
        rw [h1]
        simp only [Out.bind]
        rw [List.append_assoc]
        exact atoms_sim hx hsh nO nD (acc ++ [a]) pre l r (by omega) (by omega) h2 h3
    · rw [if_neg (fun h => g ((begins_iff hv).2 h)), if_neg (fun h => g h.2)]
      exact .done rfl hl hv
theorem atom_leaf {ex : Par Ex} {last l : Int} {rest r : List Tok} {a : Ex} (h : atomO ex last rest = .ok a l r) (hs : shapeL rest = sCon ∨ shapeL rest = sBack) : a.withKids [] = a := by
  unfold atomO at h
  rcases hs with hs | hs
  · obtain ⟨y, q, rfl⟩ := take_of hs (by decide)
    rw [hs, if_neg (by decide), if_pos rfl] at h
    cases h
    rfl
  · obtain ⟨y, q, rfl⟩ := take_of hs (by decide)
    rw [hs, if_neg (by decide), if_neg (by decide), if_neg (by decide), if_pos rfl] at h
    cases h
    rfl
theorem row_sim {ll : Int} {ex : Par Ex} {dx : Dp Ex} (hx : Sim ll ex dx) (hsh : Shrinks ex) : Sim ll (rowO ex) (rowD ll dx) := by
  intro last rest hl hv
  unfold rowO rowD
  by_cases g : begins rest
  · have ha := atom_sim hx hl hv g
    have hun : atomsD ll dx (rest.length + 1) [] ⟨rest, 0, 0⟩ = atomsD ll dx rest.length [(atomD ll dx ⟨rest, 0, 0⟩).1] (atomD ll dx ⟨rest, 0, 0⟩).2 := by
      conv => lhs; unfold atomsD
      rw [if_pos ⟨rfl, g⟩]
      rfl
    simp only
    rw [hun]
    cases ho : atomO ex last rest with
    | bad e ln =>
      rw [ho] at ha
      obtain ⟨h1, h2, h3⟩ := ha
      rw [atoms_dead _ _ (by rw [h2]; exact h1)]
      refine ⟨h1, ?_⟩
      simp only [List.cons_ne_nil, if_false]
      exact ⟨h2, h3⟩
    | ok a l r =>
      have hst := atom_strict hsh ho
      have hlf := fun h => atom_leaf ho h
      rw [ho] at ha
      obtain ⟨h1, h2, h3⟩ := ha
      rw [h1]
      have hr := atoms_sim hx hsh (r.length + 1) rest.length [] [a] l r (by omega) hst h2 h3
      simp only [List.append_nil] at hr
      simp only [Out.bind]
      cases hq : atomsO ex (r.length + 1) [] l r with
      | bad e ln =>
        rw [hq] at hr
        obtain ⟨e1, e2, e3⟩ := hr
        have hne : (atomsD ll dx rest.length [a] ⟨r, 0, 0⟩).1 ≠ [] ∨ (atomsD ll dx rest.length [a] ⟨r, 0, 0⟩).2.bad ll 3 = (atomsD ll dx rest.length [a] ⟨r, 0, 0⟩).2 := Or.inr (bad_dead (by rw [e2]; exact e1))
        refine ⟨e1, ?_⟩
        split
        · rcases hne with h | h
          · contradiction
          · rw [h]; exact ⟨e2, e3⟩
        · exact ⟨e2, e3⟩
      | ok xs l2 r2 =>
        rw [hq] at hr
        obtain ⟨e1, e2, e3⟩ := hr
        refine .done ?_ e2 e3
        rw [e1]
        simp only [List.cons_append, List.nil_append, List.cons_ne_nil, if_false]
        congr 1
        have kk : (kindL rest = 2 ∨ kindL rest = 7) ↔ (shapeL rest = sCon ∨ shapeL rest = sBack) := by rw [kind_shape (by decide) (by decide), kind_shape (by decide) (by decide)]; rfl
        cases xs with
        | nil =>
          show a = rowE _ a []
          unfold rowE
          split
          · rename_i h
            exact (hlf (of_decide_eq_true h)).symm
          · rw [if_pos rfl]
        | cons x xs =>
          show (if kindL rest = 2 ∨ kindL rest = 7 then a.withKids (x :: xs) else .mk 4 [] false 0 [] (a :: x :: xs) [] []) = rowE _ a (x :: xs)
          unfold rowE
          by_cases h : kindL rest = 2 ∨ kindL rest = 7
          · rw [if_pos h, if_pos (decide_eq_true (kk.1 h))]
          · rw [if_neg h, if_neg (by simpa using fun h' => h (kk.2 h')), if_neg (by simp)]
  · have hn : shapeL rest ≠ sName ∧ shapeL rest ≠ sCon ∧ shapeL rest ≠ sNum ∧ shapeL rest ≠ sBack ∧ shapeL rest ≠ sOpen := by
      have this : ¬ shapeL rest ∈ atomShapes := fun h => g ((begins_iff hv).2 h)
      simp only [atomShapes, List.mem_cons, List.not_mem_nil, or_false, not_or] at this
      exact this
    have hun : atomsD ll dx (rest.length + 1) [] ⟨rest, 0, 0⟩ = ([], ⟨rest, 0, 0⟩) := by
      conv => lhs; unfold atomsD
      rw [if_neg (fun h => g h.2)]
    simp only
    rw [hun, atomO_none hn]
    have h := refuse_ag (α := Ex) (ll := ll) (er := 3) (by decide) hl
    rw [refuseO_eq] at h
    exact h.ag (by simp)
theorem rows_sim {ll : Int} {ex : Par Ex} {dx : Dp Ex} (hx : Sim ll ex dx) (hsh : Shrinks ex) : Sim ll (rowsO ex) (rowsD ll dx) := by
  intro last rest hl hv
  unfold rowsO rowsD
  refine (row_sim hx hsh last rest hl hv).of (fun a l r ho hs hl hv => ?_) (fun he => by rw [if_neg (fun h => he h.1)]; exact ⟨rfl, rfl⟩)
  rw [hs]
  by_cases g : kindL r = 4
  · rw [if_pos ((kSign _).1 g), if_pos ⟨rfl, g⟩]
    refine tok_take (by decide) g hl hv fun y r2 e ht hl hv => ?_
    rw [ht]
    refine (row_sim hx hsh y.2 r2 hl hv).of (fun b l3 r3 ho hs hl hv => ?_) (fun he => ⟨rfl, rfl⟩)
    rw [hs]
    exact .done rfl hl hv
  · rw [if_neg (fun h => g ((kSign _).2 h)), if_neg (fun h => g h.2)]
    exact .done rfl hl hv
theorem want_at {last : Int} {rest : List Tok} {sh : Sh} (g : shapeL rest = sh) (h0 : sh.1 ≠ 0) {β : Type} {f : Tok → Int → List Tok → Out β} {ll : Int} {d : Dp β} (hl : lastOf last rest = ll) (hv : Tvs rest)
    (h : ∀ y r, lastOf y.2 r = ll → Tvs r → Ag ll (f y y.2 r) (d ⟨r, 0, 0⟩)) : Ag ll ((wantO sh last rest).bind f) (d (St.next ⟨rest, 0, 0⟩)) := by
  obtain ⟨y, r, rfl⟩ := take_of g h0
  unfold wantO
  rw [if_pos g]
  exact h y r hl hv.tail
theorem let_sim {ll : Int} {ex : Par Ex} {dx : Dp Ex} (hx : Sim ll ex dx) (hd : Dead dx) {last : Int} {rest : List Tok} (hl : lastOf last rest = ll) (hv : Tvs rest) (g : shapeL rest = sLet) : Ag ll (letO ex last rest) (letD ll dx (St.next ⟨rest, 0, 0⟩)) := by
  unfold letO
  refine want_at g (by decide) hl hv fun y r hl hv => ?_
  unfold letD
  refine (some_sim (bind_sim hx hd) (bind_dead hd) y.2 r hl hv).of (fun a l r ho hs hl hv => ?_) (fun he => by rw [need_dead he]; exact hd _ he)
  rw [hs]
  refine (want_ag (sh := sIn) (t := [105, 110]) (by decide) (sees_word (by unfold Sm; decide) hv) hl hv).of (fun a2 l2 r2 ho hs hl hv => ?_) (fun he => hd _ he)
  rw [hs]
  refine (hx l2 r2 hl hv).of (fun b l3 r3 ho hs hl hv => ?_) (fun he => ⟨rfl, rfl⟩)
  rw [hs]
  exact .done rfl hl hv
theorem lam_sim {ll : Int} {ex : Par Ex} {dx : Dp Ex} (hx : Sim ll ex dx) (hd : Dead dx) {last : Int} {rest : List Tok} (hl : lastOf last rest = ll) (hv : Tvs rest) (g : shapeL rest = sLam) : Ag ll (lamO ex last rest) (lamD ll dx (St.next ⟨rest, 0, 0⟩)) := by
  unfold lamO
  refine want_at g (by decide) hl hv fun y r hl hv => ?_
  unfold lamD
  by_cases g : kindL r = 1
  · rw [if_pos ((kName _).1 g)]
    obtain ⟨z, r, rfl, -⟩ := tok_ok (ll := ll) (k := 1) (by decide) g
    obtain ⟨e1, e2, e3⟩ := names1_ok (ll := ll) g hl hv.tail
    have hn : namesO y.2 (z :: r) [] = (z.1.t :: (namesO z.2 r []).1, (namesO z.2 r []).2) := by
      conv => lhs; unfold namesO
      rw [if_pos (show shapeT z.1 = sName from (kName (z :: r)).1 g), names_acc]
      rfl
    rw [e1, hn]
    refine (want_ag (sh := sArrow) (t := [45, 62]) (by decide) (sees_sign (by unfold Sm; decide) e3) e2 e3).of (fun a2 l2 r2 ho hs hl hv => ?_) (fun he => hd _ he)
    rw [hs]
    refine (hx l2 r2 hl hv).of (fun b l3 r3 ho hs hl hv => ?_) (fun he => ⟨rfl, rfl⟩)
    rw [hs]
    exact .done rfl hl hv
  · rw [if_neg (fun h => g ((kName _).2 h)), names1_bad g]
    have hb := bad_ne0 (ll := ll) (er := 3) (rest := r) (by decide)
    rw [need_dead hb]
    have h := refuse_ag (α := Ex) (ll := ll) (er := 3) (by decide) hl
    rw [refuseO_eq] at h ⊢
    obtain ⟨h1, h2, h3⟩ := h
    obtain ⟨d1, d2⟩ := hd _ hb
    exact ⟨h1, d1.trans h2, d2.trans h3⟩
theorem alt_sim {ll : Int} {ex : Par Ex} {dx : Dp Ex} (hx : Sim ll ex dx) (hd : Dead dx) : Sim ll (altO ex) (altD ll dx) := by
  intro last rest hl hv
  unfold altO altD
  have k2 := kCon rest
  have k3 := kNum rest
  by_cases g2 : kindL rest = 2
  · rw [if_pos (k2.1 g2), if_pos g2]
    refine tok_take (by decide) g2 hl hv fun y r e ht hl hv => ?_
    obtain ⟨e1, e2, e3⟩ := names0_ok (ll := ll) hl hv
    rw [ht, e1]
    refine (want_ag (sh := sArrow) (t := [45, 62]) (by decide) (sees_sign (by unfold Sm; decide) e3) e2 e3).of (fun a2 l2 r2 ho hs hl hv => ?_) (fun he => hd _ he)
    rw [hs]
    refine (hx l2 r2 hl hv).of (fun b l3 r3 ho hs hl hv => ?_) (fun he => ⟨rfl, rfl⟩)
    rw [hs]
    exact .done rfl hl hv
  rw [if_neg (fun h => g2 (k2.2 h)), if_neg g2]
  by_cases g3 : kindL rest = 3
  · rw [if_pos (k3.1 g3), if_pos g3]
    refine tok_take (by decide) g3 hl hv fun y r e ht hl hv => ?_
    rw [ht]
    refine (want_ag (sh := sArrow) (t := [45, 62]) (by decide) (sees_sign (by unfold Sm; decide) hv) hl hv).of (fun a2 l2 r2 ho hs hl hv => ?_) (fun he => hd _ he)
    rw [hs]
    refine (hx l2 r2 hl hv).of (fun b l3 r3 ho hs hl hv => ?_) (fun he => ⟨rfl, rfl⟩)
    rw [hs]
    exact .done rfl hl hv
  rw [if_neg (fun h => g3 (k3.2 h)), if_neg g3, want_name]
  by_cases g : kindL rest = 1
  · rw [if_pos g]
    refine tok_take (by decide) g hl hv fun y r e ht hl hv => ?_
    rw [ht]
    refine (want_ag (sh := sArrow) (t := [45, 62]) (by decide) (sees_sign (by unfold Sm; decide) hv) hl hv).of (fun a2 l2 r2 ho hs hl hv => ?_) (fun he => hd _ he)
    rw [hs]
    refine (hx l2 r2 hl hv).of (fun b l3 r3 ho hs hl hv => ?_) (fun he => ⟨rfl, rfl⟩)
    rw [hs]
    exact .done rfl hl hv
  · rw [if_neg g]
    have ht : tokD ll 1 ⟨rest, 0, 0⟩ = (tokO [], St.bad ll 3 ⟨rest, 0, 0⟩) := by unfold tokD; rw [if_neg (fun h => g h.2)]
    have hb := bad_ne0 (ll := ll) (er := 3) (rest := rest) (by decide)
    rw [ht, need_dead hb]
    have h := refuse_ag (α := Ex) (ll := ll) (er := 3) (by decide) hl
    rw [refuseO_eq] at h ⊢
    obtain ⟨h1, h2, h3⟩ := h
    obtain ⟨d1, d2⟩ := hd _ hb
    exact ⟨h1, d1.trans h2, d2.trans h3⟩
theorem case_sim {ll : Int} {ex : Par Ex} {dx : Dp Ex} (hx : Sim ll ex dx) (hd : Dead dx) {last : Int} {rest : List Tok} (hl : lastOf last rest = ll) (hv : Tvs rest) (g : shapeL rest = sCase) : Ag ll (caseO ex last rest) (caseD ll dx (St.next ⟨rest, 0, 0⟩)) := by
  unfold caseO
  refine want_at g (by decide) hl hv fun y r hl hv => ?_
  unfold caseD
  have dead : ∀ s : St, s.e ≠ 0 → ∀ x : Ex, (if s.e = 0 ∧ seesL [125] s.r = true then (Ex.mk 7 [] false 0 [] [x] [] [], s.next) else (.mk 7 [] false 0 [] [x] [] (someD (altD ll dx) s).1, needD ll [125] (someD (altD ll dx) s).2)).2.e = s.e ∧ (if s.e = 0 ∧ seesL [125] s.r = true then (Ex.mk 7 [] false 0 [] [x] [] [], s.next) else (.mk 7 [] false 0 [] [x] [] (someD (altD ll dx) s).1, needD ll [125] (someD (altD ll dx) s).2)).2.ln = s.ln := by
    intro s hs x
    rw [if_neg (fun h => hs h.1)]
    obtain ⟨d1, d2⟩ := some_dead (alt_dead hd) s hs
    simp only
    rw [need_dead (by rw [d1]; exact hs)]
    exact ⟨d1, d2⟩
  refine (hx y.2 r hl hv).of (fun a l r ho hs hl hv => ?_) (fun he => ?_)
  rotate_left
  · have ho : ofD ll (dx ⟨r, 0, 0⟩).2 = (dx ⟨r, 0, 0⟩).2 := by unfold ofD; rw [need_dead he, need_dead he]
    rw [ho]
    exact dead _ he _
  rw [hs]
  simp only
  unfold ofD
  refine (want_ag (sh := sOf) (t := [111, 102]) (by decide) (sees_word (by unfold Sm; decide) hv) hl hv).of (fun a2 l2 r2 ho hs hl hv => ?_) (fun he => ?_)
  rotate_left
  · rw [need_dead he]
    exact dead _ he _
  rw [hs]
  refine (want_ag (sh := sCurl) (t := [123]) (by decide) (sees_sign (by unfold Sm; decide) hv) hl hv).of (fun a2 l2 r2 ho hs hl hv => ?_) (fun he => dead _ he _)
  rw [hs]
  have hq : seesL [125] r2 = true ↔ shapeL r2 = sLruc := sees_sign (by unfold Sm; decide) hv
  by_cases g : shapeL r2 = sLruc
  · rw [if_pos g, if_pos ⟨rfl, hq.2 g⟩]
    obtain ⟨z, q, rfl⟩ := take_of g (by decide)
    unfold wantO
    rw [if_pos g]
    exact .done rfl hl hv.tail
  · rw [if_neg g, if_neg (fun h => g (hq.1 h.2))]
    refine (some_sim (alt_sim hx hd) (alt_dead hd) l2 r2 hl hv).of (fun a l r ho hs hl hv => ?_) (fun he => by rw [need_dead he]; exact ⟨rfl, rfl⟩)
    rw [hs]
    refine (want_ag (sh := sLruc) (t := [125]) (by decide) (sees_sign (by unfold Sm; decide) hv) hl hv).of (fun a2 l2 r2 ho hs hl hv => ?_) (fun he => ⟨rfl, rfl⟩)
    rw [hs]
    exact .done rfl hl hv
theorem starts_iff {rest : List Tok} (hv : Tvs rest) : startsL rest ↔ shapeL rest ∈ exprShapes := by
  unfold startsL exprShapes
  rw [kind_shape (by decide) (by decide), kind_shape (by decide) (by decide), kind_shape (by decide) (by decide), kind_shape (by decide) (by decide), sees_sign (c := 40) (by unfold Sm; decide) hv, sees_sign (c := 92) (by unfold Sm; decide) hv, sees_word (c := 108) (by unfold Sm; decide) hv, sees_word (c := 99) (by unfold Sm; decide) hv]
  simp only [List.mem_cons, List.not_mem_nil, or_false, sName, sCon, sNum, sBack, sOpen, sLet, sCase, sLam]
  constructor
  · rintro (h | h | h | h | h | h | h | h) <;> simp [h]
  · rintro (h | h | h | h | h | h | h | h) <;> simp [h]
theorem expr_sim {ll : Int} : ∀ (n k d : Nat), k + d = 200 → 200 < n + d → Sim ll (exprO n d) (exprD ll k)
  | 0, k, d, h1, h2 => by omega
  | n + 1, 0, d, h1, h2 => by
    intro last rest hl hv
    obtain rfl : d = 200 := by omega
    unfold exprO exprD
    rw [if_neg (show ¬ ((⟨rest, 0, 0⟩ : St).e ≠ 0) by simp)]
    by_cases g : startsL rest
    · rw [if_pos ((starts_iff hv).1 g), if_pos rfl, if_pos g, bad_dead (bad_ne0 (by decide))]
      exact refuse_Ag (by decide) hl rfl
    · rw [if_neg (fun h => g ((starts_iff hv).2 h)), if_neg g]
      exact refuse_Ag (by decide) hl rfl
  | n + 1, k + 1, d, h1, h2 => by
    intro last rest hl hv
    have hx : Sim ll (exprO n (d + 1)) (exprD ll k) := expr_sim n k (d + 1) (by omega) (by omega)
    have hd : Dead (exprD ll k) := expr_dead k
    have hsh := expr_shrinks n (d + 1)
    have s1 : seesL [108, 101, 116] rest = true ↔ shapeL rest = sLet := sees_word (by unfold Sm; decide) hv
    have s2 : seesL [99, 97, 115, 101] rest = true ↔ shapeL rest = sCase := sees_word (by unfold Sm; decide) hv
    have s3 : seesL [92] rest = true ↔ shapeL rest = sLam := sees_sign (by unfold Sm; decide) hv
    unfold exprO exprD
    rw [if_neg (show ¬ ((⟨rest, 0, 0⟩ : St).e ≠ 0) by simp)]
    by_cases g : shapeL rest ∈ exprShapes
    · rw [if_pos g, if_neg (by omega)]
      by_cases g1 : shapeL rest = sLet
      · rw [if_pos g1, if_pos (s1.2 g1)]
        exact let_sim hx hd hl hv g1
      rw [if_neg g1, if_neg (fun h => g1 (s1.1 h))]
      by_cases g2 : shapeL rest = sCase
      · rw [if_pos g2, if_pos (s2.2 g2)]
        exact case_sim hx hd hl hv g2
      rw [if_neg g2, if_neg (fun h => g2 (s2.1 h))]
      by_cases g3 : shapeL rest = sLam
      · rw [if_pos g3, if_pos (s3.2 g3)]
        exact lam_sim hx hd hl hv g3
      rw [if_neg g3, if_neg (fun h => g3 (s3.1 h))]
      exact rows_sim hx hsh last rest hl hv
    · have hn := g
      simp only [exprShapes, List.mem_cons, List.not_mem_nil, or_false, not_or] at hn
      rw [if_neg g, if_neg (fun h => hn.1 (s1.1 h)), if_neg (fun h => hn.2.1 (s2.1 h)), if_neg (fun h => hn.2.2.1 (s3.1 h))]
      have hb : ¬ begins rest := fun h => by
        have := (begins_iff hv).1 h
        simp only [atomShapes, List.mem_cons, List.not_mem_nil, or_false] at this
        rcases this with h | h | h | h | h
        · exact hn.2.2.2.1 h
        · exact hn.2.2.2.2.1 h
        · exact hn.2.2.2.2.2.1 h
        · exact hn.2.2.2.2.2.2.1 h
        · exact hn.2.2.2.2.2.2.2 h
      have hun : atomsD ll (exprD ll k) (rest.length + 1) [] ⟨rest, 0, 0⟩ = ([], ⟨rest, 0, 0⟩) := by
        conv => lhs; unfold atomsD
        rw [if_neg (fun h => hb h.2)]
      have hrow : rowD ll (exprD ll k) ⟨rest, 0, 0⟩ = (blankX, St.bad ll 3 ⟨rest, 0, 0⟩) := by
        unfold rowD
        simp only
        rw [hun]
        rfl
      unfold rowsD
      rw [hrow, if_neg (fun h => bad_ne0 (by decide) h.1)]
      exact refuse_Ag (by decide) hl rfl
theorem decls_sim {ll : Int} : ∀ (n : Nat) (acc : List (Nm × Int)), Sim ll (declsO n acc) (declsD ll n acc)
  | 0, acc => fun last rest hl hv => .done rfl hl hv
  | n + 1, acc => fun last rest hl hv => by
    unfold declsO declsD
    by_cases g : kindL rest = 2
    · rw [if_pos ((kCon _).1 g), if_pos ⟨rfl, g⟩]
      refine tok_take (by decide) g hl hv fun y r e ht hl hv => ?_
      rw [ht]
      simp only
      by_cases g3 : kindL r = 3
      · rw [if_pos ((kNum _).1 g3)]
        obtain ⟨u, q, rfl, hu⟩ := tok_ok (ll := ll) (k := 3) (by decide) g3
        simp only [takeO, Out.bind]
        by_cases gr : u.1.f = true ∨ 24 < u.1.x
        · have hdd : declD ll ⟨u :: q, 0, 0⟩ = St.bad ll 1 ⟨u :: q, 0, 0⟩ := by unfold declD; rw [if_pos ⟨g3, gr⟩]
          have hb := bad_ne0 (ll := ll) (er := 1) (rest := u :: q) (by decide)
          rw [if_pos gr, hdd, tok_dead hb]
          have hdz : ∀ acc, declsD ll n acc (St.bad ll 1 ⟨u :: q, 0, 0⟩) = (acc, St.bad ll 1 ⟨u :: q, 0, 0⟩) := fun acc => by
            cases n with
            | zero => rfl
            | succ n => unfold declsD; rw [if_neg (fun h => hb h.1)]
          simp only
          rw [hdz]
          exact refuse_Ag (by decide) hl rfl
        · have hdd : declD ll ⟨u :: q, 0, 0⟩ = ⟨u :: q, 0, 0⟩ := by unfold declD; rw [if_neg (fun h => gr h.2)]
          rw [if_neg gr, hdd, hu]
          exact decls_sim n _ u.2 q hl hv.tail
      · have hdd : declD ll ⟨r, 0, 0⟩ = ⟨r, 0, 0⟩ := by unfold declD; rw [if_neg (fun h => g3 h.1)]
        have ht3 : tokD ll 3 ⟨r, 0, 0⟩ = (tokO [], St.bad ll 3 ⟨r, 0, 0⟩) := by unfold tokD; rw [if_neg (fun h => g3 h.2)]
        have hb := bad_ne0 (ll := ll) (er := 3) (rest := r) (by decide)
        have hdz : ∀ acc, declsD ll n acc (St.bad ll 3 ⟨r, 0, 0⟩) = (acc, St.bad ll 3 ⟨r, 0, 0⟩) := fun acc => by
          cases n with
          | zero => rfl
          | succ n => unfold declsD; rw [if_neg (fun h => hb h.1)]
        rw [if_neg (fun h => g3 ((kNum _).2 h)), hdd, ht3]
        simp only
        rw [hdz]
        exact refuse_Ag (by decide) hl rfl
    · rw [if_neg (fun h => g ((kCon _).2 h)), if_neg (fun h => g h.2)]
      exact .done rfl hl hv
theorem module_dead {ll : Int} (n : Nat) (cs : List (Nm × Int)) (bs : List Bnd) {s : St} (h : s.e ≠ 0) : moduleD ll n cs bs s = ((cs, bs), s) := by
  cases n with
  | zero => rfl
  | succ n => unfold moduleD; rw [if_neg (fun g => h g.1)]
theorem module_sim {ll : Int} : ∀ (n : Nat) (cs : List (Nm × Int)) (bs : List Bnd), Sim ll (moduleO n cs bs) (moduleD ll n cs bs)
  | 0, cs, bs => fun last rest hl hv => .done rfl hl hv
  | n + 1, cs, bs => fun last rest hl hv => by
    unfold moduleO moduleD
    by_cases g0 : rest = []
    · rw [if_pos g0, if_neg (fun h => h.2 g0)]
      exact .done rfl hl hv
    rw [if_neg g0, if_pos (show (⟨rest, 0, 0⟩ : St).e = 0 ∧ (⟨rest, 0, 0⟩ : St).r ≠ [] from ⟨rfl, g0⟩)]
    have s1 : seesL [100, 97, 116, 97] rest = true ↔ shapeL rest = sData := sees_word (by unfold Sm; decide) hv
    by_cases g : shapeL rest = sData
    · rw [if_pos g, if_pos (s1.2 g)]
      obtain ⟨y, r, rfl⟩ := take_of g (by decide)
      simp only [takeO, Out.bind]
      rw [show (St.next ⟨y :: r, 0, 0⟩) = ⟨r, 0, 0⟩ from rfl]
      unfold dataD
      refine (decls_sim (r.length + 1) [] y.2 r hl hv.tail).of (fun a l r2 ho hs hl hv => ?_) (fun he => by simp only [need_dead he, module_dead _ _ _ he, and_self])
      simp only
      rw [hs]
      refine (want_ag (sh := sSemi) (t := [59]) (by decide) (sees_sign (by unfold Sm; decide) hv) hl hv).of (fun a2 l2 r2 ho hs hl hv => ?_) (fun he => by simp only [module_dead _ _ _ he, and_self])
      simp only
      rw [hs]
      exact module_sim n _ _ l2 r2 hl hv
    · rw [if_neg g, if_neg (fun h => g (s1.1 h))]
      refine (bind_sim (expr_sim (rest.length + 201) 200 0 rfl (by omega)) (expr_dead 200) last rest hl hv).of (fun a l r ho hs hl hv => ?_) (fun he => by simp only [need_dead he, module_dead _ _ _ he, and_self])
      rw [hs]
      refine (want_ag (sh := sSemi) (t := [59]) (by decide) (sees_sign (by unfold Sm; decide) hv) hl hv).of (fun a2 l2 r2 ho hs hl hv => ?_) (fun he => by simp only [module_dead _ _ _ he, and_self])
      simp only
      rw [hs]
      exact module_sim n _ _ l2 r2 hl hv
theorem parse_sim {T : List Tok} (hv : Tvs T) : Ag (lastOf 1 T) (parseO T) (moduleD (lastOf 1 T) (T.length + 1) [] [] ⟨T, 0, 0⟩) := module_sim _ _ _ 1 T rfl hv
def mS (s : St) : Nat := if s.e = 0 then s.r.length + 1 else 0
theorem mS_dead {s : St} (h : s.e ≠ 0) : mS s = 0 := if_neg h
theorem mS_alive {s : St} (h : s.e = 0) : mS s = s.r.length + 1 := if_pos h
def Mn {α : Type} (d : Dp α) : Prop := ∀ s, mS (d s).2 ≤ mS s
theorem bad_e {ll er : Int} {s : St} (he : er ≠ 0) : (s.bad ll er).e ≠ 0 := by
  unfold St.bad
  by_cases h : s.e ≠ 0
  · rw [if_pos h]; exact h
  · rw [if_neg h]
    cases s.r with
    | nil => simp
    | cons y r => exact he
theorem bad_mn {ll er : Int} {s : St} (he : er ≠ 0) : mS (s.bad ll er) ≤ mS s := by rw [mS_dead (bad_e he)]; exact Nat.zero_le _
theorem next_mn (s : St) : mS s.next ≤ mS s := by
  unfold mS St.next
  simp only
  split
  · have := List.length_tail (l := s.r); omega
  · exact Nat.le_refl _
theorem next_lt {s : St} (h : s.e = 0) (hr : s.r ≠ []) : mS s.next < mS s := by
  unfold mS St.next
  simp only [h, if_true]
  have := List.length_pos_iff.2 hr
  have := List.length_tail (l := s.r)
  omega
theorem sees_ne {t : Nm} {r : List Tok} (h : seesL t r = true) : r ≠ [] := by rintro rfl; cases h
theorem kind_ne {k : Int} (hk : k ≠ 0) {r : List Tok} (h : kindL r = k) : r ≠ [] := by rintro rfl; exact hk h.symm
theorem need_mn (ll : Int) (t : Nm) (s : St) : mS (needD ll t s) ≤ mS s := by
  unfold needD
  split
  · exact next_mn s
  · exact bad_mn (by decide)
theorem tok_mn (ll k : Int) (s : St) : mS (tokD ll k s).2 ≤ mS s := by
  unfold tokD
  split
  · exact next_mn s
  · exact bad_mn (by decide)
theorem tok_lt {ll k : Int} (hk : k ≠ 0) {s : St} (h : s.e = 0) : mS (tokD ll k s).2 < mS s := by
  unfold tokD
  split
  · rename_i g; exact next_lt h (kind_ne hk g.2)
  · simp only
    rw [mS_dead (bad_e (by decide)), mS_alive h]
    omega
theorem loop_mn (ll : Int) : ∀ (n : Nat) (b : Bool) (acc : List Nm) (s : St), mS (loopN ll n b acc s).2 ≤ mS s
  | 0, _, _, _ => Nat.le_refl _
  | n + 1, b, acc, s => by
    unfold loopN
    split
    · exact Nt (loop_mn ll n _ _ _) (tok_mn _ _ _)
    · exact Nat.le_refl _
theorem names_mn (ll : Int) (b : Bool) (s : St) : mS (namesD ll b s).2 ≤ mS s := loop_mn _ _ _ _ _
theorem names_lt {ll : Int} {s : St} (h : s.e = 0) : mS (namesD ll true s).2 < mS s := by
  unfold namesD loopN
  rw [if_pos ⟨h, Or.inl rfl⟩]
  exact Nat.lt_of_le_of_lt (loop_mn _ _ _ _ _) (tok_lt (by decide) h)
theorem bind_mn {ll : Int} {ex : Dp Ex} (hx : Mn ex) : Mn (bindD ll ex) := fun _ => Nt (hx _) (Nt (need_mn _ _ _) (names_mn _ _ _))
theorem bind_lt {ll : Int} {ex : Dp Ex} (hx : Mn ex) {s : St} (h : s.e = 0) : mS (bindD ll ex s).2 < mS s := Nat.lt_of_le_of_lt (Nt (hx _) (need_mn _ _ _)) (names_lt h)
theorem more_mn {α : Type} {item : Dp α} (hx : Mn item) : ∀ (n : Nat) (acc : List α), Mn (moreD item n acc)
  | 0, _ => fun _ => Nat.le_refl _
  | n + 1, acc => fun s => by
    unfold moreD
    split
    · exact Nt (more_mn hx n _ _) (Nt (hx _) (next_mn _))
    · exact Nat.le_refl _
theorem some_mn {α : Type} {item : Dp α} (hx : Mn item) : Mn (someD item) := fun s => Nt (more_mn hx _ _ _) (hx s)
theorem atom_mn {ll : Int} {ex : Dp Ex} (hx : Mn ex) : Mn (atomD ll ex) := fun s => by
  unfold atomD
  split
  · exact tok_mn _ _ _
  split
  · exact tok_mn _ _ _
  split
  · exact tok_mn _ _ _
  split
  · exact tok_mn _ _ _
  · exact Nt (need_mn _ _ _) (Nt (hx _) (next_mn _))
theorem atom_lt {ll : Int} {ex : Dp Ex} (hx : Mn ex) {s : St} (h : s.e = 0) (hb : begins s.r) : mS (atomD ll ex s).2 < mS s := by
  unfold atomD
  split
  · exact tok_lt (by decide) h
  split
  · exact tok_lt (by decide) h
  split
  · exact tok_lt (by decide) h
  split
  · exact tok_lt (by decide) h
  · rename_i g1 g2 g3 g4
    have hs : seesL [40] s.r = true := by
      rcases hb with h | h | h | h | h
      · exact absurd h g1
      · exact absurd h g2
      · exact absurd h g3
      · exact absurd h g4
      · exact h
    exact Nat.lt_of_le_of_lt (Nt (need_mn _ _ _) (hx _)) (next_lt h (sees_ne hs))
theorem atoms_mn {ll : Int} {ex : Dp Ex} (hx : Mn ex) : ∀ (n : Nat) (acc : List Ex), Mn (atomsD ll ex n acc)
  | 0, _ => fun _ => Nat.le_refl _
  | n + 1, acc => fun s => by
    unfold atomsD
    split
    · exact Nt (atoms_mn hx n _ _) (atom_mn hx _)
    · exact Nat.le_refl _
theorem row_mn {ll : Int} {ex : Dp Ex} (hx : Mn ex) : Mn (rowD ll ex) := fun s => by
  unfold rowD
  simp only
  split
  · exact Nt (bad_mn (by decide)) (atoms_mn hx _ _ _)
  · exact atoms_mn hx _ _ _
theorem alt_mn {ll : Int} {ex : Dp Ex} (hx : Mn ex) : Mn (altD ll ex) := fun s => by
  unfold altD
  split
  · exact Nt (hx _) (Nt (need_mn _ _ _) (Nt (names_mn _ _ _) (tok_mn _ _ _)))
  split
  · exact Nt (hx _) (Nt (need_mn _ _ _) (tok_mn _ _ _))
  · exact Nt (hx _) (Nt (need_mn _ _ _) (tok_mn _ _ _))
theorem let_mn {ll : Int} {ex : Dp Ex} (hx : Mn ex) : Mn (letD ll ex) := fun _ => Nt (hx _) (Nt (need_mn _ _ _) (some_mn (bind_mn hx) _))
theorem of_mn (ll : Int) (s : St) : mS (ofD ll s) ≤ mS s := Nt (need_mn _ _ _) (need_mn _ _ _)
theorem case_mn {ll : Int} {ex : Dp Ex} (hx : Mn ex) : Mn (caseD ll ex) := fun s => by
  unfold caseD
  split
  · exact Nt (next_mn _) (Nt (of_mn _ _) (hx _))
  · exact Nt (need_mn _ _ _) (Nt (some_mn (alt_mn hx) _) (Nt (of_mn _ _) (hx _)))
theorem lam_mn {ll : Int} {ex : Dp Ex} (hx : Mn ex) : Mn (lamD ll ex) := fun _ => Nt (hx _) (Nt (need_mn _ _ _) (names_mn _ _ _))
theorem rows_mn {ll : Int} {ex : Dp Ex} (hx : Mn ex) : Mn (rowsD ll ex) := fun s => by
  unfold rowsD
  split
  · exact Nt (row_mn hx _) (Nt (tok_mn _ _ _) (row_mn hx _))
  · exact row_mn hx _
theorem expr_mn {ll : Int} : ∀ k, Mn (exprD ll k)
  | 0 => fun s => by
    unfold exprD
    split
    · exact Nat.le_refl _
    · refine Nt (bad_mn (by decide)) ?_
      split
      · exact bad_mn (by decide)
      · exact Nat.le_refl _
  | k + 1 => fun s => by
    unfold exprD
    split
    · exact Nat.le_refl _
    split
    · exact Nt (let_mn (expr_mn k) _) (next_mn _)
    split
    · exact Nt (case_mn (expr_mn k) _) (next_mn _)
    split
    · exact Nt (lam_mn (expr_mn k) _) (next_mn _)
    · exact rows_mn (expr_mn k) _
theorem decl_mn (ll : Int) (s : St) : mS (declD ll s) ≤ mS s := by
  unfold declD
  split
  · exact bad_mn (by decide)
  · exact Nat.le_refl _
theorem decl_lt {ll : Int} {s : St} (h : s.e = 0) : mS (tokD ll 3 (declD ll (tokD ll 2 s).2)).2 < mS s := Nat.lt_of_le_of_lt (Nt (tok_mn _ _ _) (decl_mn _ _)) (tok_lt (by decide) h)
theorem declsd_len (ll : Int) : ∀ (n : Nat) (acc : List (Nm × Int)) (s : St), (declsD ll n acc s).1.length + mS (declsD ll n acc s).2 ≤ acc.length + mS s
  | 0, _, _ => Nat.le_refl _
  | n + 1, acc, s => by
    unfold declsD
    split
    · rename_i g
      have h1 := declsd_len ll n (acc ++ [((tokD ll 2 s).1.1.t, (tokD ll 3 (declD ll (tokD ll 2 s).2)).1.1.x)]) (tokD ll 3 (declD ll (tokD ll 2 s).2)).2
      have h2 := decl_lt (ll := ll) g.1
      simp only [List.length_append, List.length_cons, List.length_nil] at h1
      omega
    · exact Nat.le_refl _
structure PAt (w : World) (b : Nat) (T : List Tok) (s : St) : Prop where
  c0 : ∃ v, w.cell? ⟨b, 0, none⟩ = some v ∧ RestIn w b v T
  c1 : ∃ i : Nat, i ≤ T.length ∧ s.r = T.drop i ∧ w.cell? ⟨b, 1, none⟩ = some (.int .i64 i)
  c2 : w.cell? ⟨b, 2, none⟩ = some (.int .i64 s.e)
  c3 : w.cell? ⟨b, 3, none⟩ = some (.int .i64 s.ln)
  z : ∀ j, w.frozen? ⟨b, j, none⟩ = false
  n : T.length ≤ 100000
theorem PAt.lt {w : World} {b : Nat} {T : List Tok} {s : St} (h : PAt w b T s) : b < w.heap.size := Bl h.c2
theorem RestIn.keep {w w' : World} {b : Nat} {v : Value} {rest : List Tok} (h : RestIn w b v rest) (hk : ∀ g, g ≤ b → w'.heap[g]? = w.heap[g]?) : RestIn w' b v rest := by
  obtain ⟨a, c, e, h1, h2, h3⟩ := h
  refine ⟨a, c, e, h1, h2, ?_⟩
  rcases h3 with h3 | ⟨g, o, e2, hg, ht⟩
  · exact Or.inl h3
  · refine Or.inr ⟨g, o, e2, hg, fun j hj => ?_⟩
    obtain ⟨t0, t1, t2, t3, t4⟩ := ht j hj
    have k := hk g (Nat.le_of_lt hg)
    exact ⟨(World.cell?_of_block (a := ⟨g, _, none⟩) k).trans t0, (World.cell?_of_block (a := ⟨g, _, none⟩) k).trans t1, (World.cell?_of_block (a := ⟨g, _, none⟩) k).trans t2, (World.cell?_of_block (a := ⟨g, _, none⟩) k).trans t3, (World.cell?_of_block (a := ⟨g, _, none⟩) k).trans t4⟩
theorem PAt.keep {w w' : World} {b : Nat} {T : List Tok} {s : St} (h : PAt w b T s) (hk : ∀ g, g ≤ b → w'.heap[g]? = w.heap[g]?) : PAt w' b T s := by
  obtain ⟨v, hv, hr⟩ := h.c0
  obtain ⟨i, h1, h2, h3⟩ := h.c1
  have k := hk b Nr
  exact ⟨⟨v, (World.cell?_of_block (a := ⟨b, _, none⟩) k).trans hv, hr.keep hk⟩, ⟨i, h1, h2, (World.cell?_of_block (a := ⟨b, _, none⟩) k).trans h3⟩, (World.cell?_of_block (a := ⟨b, _, none⟩) k).trans h.c2, (World.cell?_of_block (a := ⟨b, _, none⟩) k).trans h.c3, fun j => (World.frozen?_of_block (a := ⟨b, _, none⟩) k).trans (h.z j), h.n⟩
theorem PAt.later {w w' : World} {b : Nat} {T : List Tok} {s : St} (h : PAt w b T s) (hb : Below w.heap.size w w') : PAt w' b T s := h.keep fun g hg => hb.block g (by have := h.lt; omega)
theorem PAt.past {w w' : World} {b q : Nat} {T : List Tok} {s : St} (h : PAt w b T s) (hg : w.grownBy w' (some q)) (hq : b < q) : PAt w' b T s := h.keep fun g hg' => hg.block g (by have := h.lt; omega) (by simp; omega)
theorem PAt.over {w : World} {b p i : Nat} {T : List Tok} {s : St} (h : PAt w b T s) (hp : b < p) (u : Value) : PAt (w.setCell ⟨p, i, none⟩ u) b T s := h.keep fun g hg => Below.heap_setCell _ _ _ _ (by simp only; omega)
theorem PAt.set {w : World} {b i : Nat} {T : List Tok} {s : St} (h : PAt w b T s) (u : Value) (hi : i ≠ 0) : (∃ v, (w.setCell ⟨b, i, none⟩ u).cell? ⟨b, 0, none⟩ = some v ∧ RestIn (w.setCell ⟨b, i, none⟩ u) b v T) ∧ ∀ j, (w.setCell ⟨b, i, none⟩ u).frozen? ⟨b, j, none⟩ = false := by
  obtain ⟨v, hv, hr⟩ := h.c0
  exact ⟨⟨v, (at_oth _ _ _ _ _ hi).trans hv, hr.later (set_grown ..)⟩, fun j => by simp [h.z j]⟩
theorem PAt.next {w : World} {b i : Nat} {T : List Tok} {s : St} (h : PAt w b T s) (hi : w.cell? ⟨b, 1, none⟩ = some (.int .i64 i)) (hr : s.r ≠ []) : PAt (w.setCell ⟨b, 1, none⟩ (.int .i64 ((i : Int) + 1))) b T s.next := by
  obtain ⟨j, h1, h2, h3⟩ := h.c1
  obtain rfl : j = i := by rw [hi] at h3; have := Oi h3; injection this with _ h; omega
  obtain ⟨k0, kz⟩ := h.set (i := 1) (.int .i64 ((j : Int) + 1)) (by decide)
  have hlt : j < T.length := by
    rcases Nat.lt_or_ge j T.length with h | h
    · exact h
    · exact absurd (h2.trans (List.drop_eq_nil_of_le h)) hr
  refine ⟨k0, ⟨j + 1, hlt, ?_, at_sam _ hi⟩, (at_oth _ _ _ _ _ (by decide)).trans h.c2, (at_oth _ _ _ _ _ (by decide)).trans h.c3, kz, h.n⟩
  show s.r.tail = _
  rw [h2, List.tail_drop]
theorem PAt.setE {w : World} {b : Nat} {T : List Tok} {s : St} (h : PAt w b T s) (e : Int) : PAt (w.setCell ⟨b, 2, none⟩ (.int .i64 e)) b T ⟨s.r, e, s.ln⟩ := by
  obtain ⟨i, h1, h2, h3⟩ := h.c1
  obtain ⟨k0, kz⟩ := h.set (i := 2) (.int .i64 e) (by decide)
  exact ⟨k0, ⟨i, h1, h2, (at_oth _ _ _ _ _ (by decide)).trans h3⟩, at_sam _ h.c2, (at_oth _ _ _ _ _ (by decide)).trans h.c3, kz, h.n⟩
theorem PAt.setL {w : World} {b : Nat} {T : List Tok} {s : St} (h : PAt w b T s) (ln : Int) : PAt (w.setCell ⟨b, 3, none⟩ (.int .i64 ln)) b T ⟨s.r, s.e, ln⟩ := by
  obtain ⟨i, h1, h2, h3⟩ := h.c1
  obtain ⟨k0, kz⟩ := h.set (i := 3) (.int .i64 ln) (by decide)
  exact ⟨k0, ⟨i, h1, h2, (at_oth _ _ _ _ _ (by decide)).trans h3⟩, (at_oth _ _ _ _ _ (by decide)).trans h.c2, at_sam _ h.c3, kz, h.n⟩
theorem PAt.view {w : World} {b : Nat} {T : List Tok} {s : St} (h : PAt w b T s) : ∃ i a c, w.cell? ⟨b, 0, none⟩ = some (.slice a T.length c) ∧ T.length ≤ c ∧ c ≤ maxLen ∧ w.cell? ⟨b, 1, none⟩ = some (.int .i64 ((i : Nat) : Int)) ∧ i ≤ T.length ∧ s.r = T.drop i ∧ w.cell? ⟨b, 2, none⟩ = some (.int .i64 s.e) ∧ w.cell? ⟨b, 3, none⟩ = some (.int .i64 s.ln) ∧ (T = [] ∨ ∃ g o, a = some ⟨g, o, none⟩ ∧ g < b ∧ ∀ i (h : i < T.length), TokIn w g (o + i * 5) T[i]) := by
  obtain ⟨v, hv, a, c, rfl, hc, hm, ht⟩ := h.c0
  obtain ⟨i, h1, h2, h3⟩ := h.c1
  exact ⟨i, a, c, hv, hc, hm, h3, h1, h2, h.c2, h.c3, ht⟩
def stM (n b : Nat) (w : World) : Nat :=
  match w.cell? ⟨b, 2, none⟩ with
  | some (.int _ 0) => n + 1 - (RowKit.intOf ((w.cell? ⟨b, 1, none⟩).getD .nilFunc)).toNat
  | _ => 0
theorem PAt.m {w : World} {b : Nat} {T : List Tok} {s : St} (h : PAt w b T s) : stM T.length b w = mS s := by
  obtain ⟨i, h1, h2, h3⟩ := h.c1
  unfold stM mS
  rw [h.c2, h3]
  by_cases g : s.e = 0
  · rw [g, if_pos rfl, h2, List.length_drop]
    simp only [Option.getD_some, RowKit.intOf]
    omega
  · rw [if_neg g]
    split
    · rename_i k heq
      injection heq with heq
      injection heq with _ heq
      exact absurd heq g
    · rfl
theorem dbelow {B : Nat} {w W : World} (h : Below B w W) (n : Nat) : Below B w (W.drewN n) := ⟨h.os, h.tape, h.output, h.size, h.block⟩
def DSaid {α : Type} (b : Nat) (T : List Tok) (V : α → Ending → World → Prop) (o : α × St) (w : World) (e : Ending) (w' : World) : Prop :=
  V o.1 e w' ∧ PAt w' b T o.2 ∧ w.grownBy w' (some b)
theorem last_get {T : List Tok} (h : T ≠ []) (l : Int) : ∃ y, T[T.length - 1]? = some y ∧ lastOf l T = y.2 := by
  induction T generalizing l with
  | nil => exact absurd rfl h
  | cons y r ih =>
    cases r with
    | nil => exact ⟨y, rfl, rfl⟩
    | cons z r =>
      obtain ⟨u, h1, h2⟩ := ih (by simp) y.2
      exact ⟨u, by simpa using h1, h2⟩
def bodyO (n d : Nat) : Par Ex := fun last rest =>
  if shapeL rest = sLet then letO (exprO n d) last rest
  else if shapeL rest = sCase then caseO (exprO n d) last rest
  else if shapeL rest = sLam then lamO (exprO n d) last rest
  else rowsO (exprO n d) last rest
def BoxW (W : World) (p : Nat) (cs : List Value) : Prop := (∀ j v, cs[j]? = some v → W.cell? ⟨p, j, none⟩ = some v) ∧ ∀ j, W.frozen? ⟨p, j, none⟩ = false
theorem BoxW.alloc (w : World) (cs : Array Value) (t : TypeId) : BoxW (w.alloc (.cells cs t)) w.heap.size cs.toList :=
  ⟨fun j v h => by simp [go_sem]; simpa using h, fun j => by simp⟩
theorem BoxW.lt {W : World} {p : Nat} {c : Value} {cs : List Value} (h : BoxW W p (c :: cs)) : p < W.heap.size := Bl (h.1 0 c rfl)
theorem BoxW.grown {W W' : World} {p b : Nat} {c : Value} {cs : List Value} (h : BoxW W p (c :: cs)) (hg : W.grownBy W' (some b)) (hp : p ≠ b) : BoxW W' p (c :: cs) :=
  ⟨fun j v hj => hg.cell (h.1 j v hj) (by simpa using hp), fun j => (World.frozen?_of_block (w := W) (hg.block _ h.lt (by simpa using hp))).trans (h.2 j)⟩
theorem boxw_grown {W W' : World} {p b : Nat} {c : Value} {cs : List Value} (h : BoxW W p (c :: cs)) (hg : W.grownBy W' (some b)) (hp : p ≠ b) : BoxW W' p (c :: cs) := h.grown hg hp
theorem BoxW.below {W W' : World} {p : Nat} {c : Value} {cs : List Value} (h : BoxW W p (c :: cs)) (hb : Below W.heap.size W W') : BoxW W' p (c :: cs) :=
  h.grown (b := p + 1) (grown_of hb) (by omega)
theorem BoxW.set {W : World} {p : Nat} {cs : List Value} (h : BoxW W p cs) (i : Nat) (hi : i < cs.length) (v : Value) : BoxW (W.setCell ⟨p, i, none⟩ v) p (cs.set i v) := by
  refine ⟨fun j u hj => ?_, fun j => by simp [h.2 j]⟩
  by_cases e : i = j
  · subst e
    rw [List.getElem?_set_self hi] at hj
    cases hj
    exact at_sam v (h.1 i cs[i] (List.getElem?_eq_getElem hi))
  · rw [List.getElem?_set_ne e] at hj
    exact (at_oth _ _ _ _ _ e).trans (h.1 j u hj)
theorem BoxW.far {W : World} {p q i : Nat} {cs : List Value} (h : BoxW W p cs) (hq : q ≠ p) (v : Value) : BoxW (W.setCell ⟨q, i, none⟩ v) p cs :=
  ⟨fun j u hj => (at_far _ _ _ _ _ _ hq).trans (h.1 j u hj), fun j => by simp [h.2 j]⟩
def Kp (lo hi : Nat) (W W' : World) : Prop := ∀ g, lo ≤ g → g < hi → W'.heap[g]? = W.heap[g]?
theorem Kp.refl (lo hi : Nat) (W : World) : Kp lo hi W W := fun _ _ _ => rfl
theorem Kp.trans {lo hi : Nat} {W W' W'' : World} (h : Kp lo hi W W') (h2 : Kp lo hi W' W'') : Kp lo hi W W'' := fun g h3 h4 => (h2 g h3 h4).trans (h g h3 h4)
theorem Kp.grown {lo hi : Nat} {W W' : World} {b : Nat} (hg : W.grownBy W' (some b)) (hb : b < lo) (hi' : hi ≤ W.heap.size) : Kp lo hi W W' := fun g h1 h2 => hg.block g (by omega) (by simp; omega)
theorem Kp.below {lo hi : Nat} {W W' : World} (hb : Below W.heap.size W W') (hi' : hi ≤ W.heap.size) : Kp lo hi W W' := fun g _ h2 => hb.block g (by omega)
theorem Kp.set {lo hi : Nat} (W : World) (p i : Nat) (v : Value) (h : p < lo ∨ hi ≤ p) : Kp lo hi W (W.setCell ⟨p, i, none⟩ v) := fun g h1 h2 => Below.heap_setCell _ _ _ _ (by simp only; omega)
theorem ExAt.kp {W W' : World} {lo lo' : Nat} {x : Ex} {cs : List Value} (h : ExAt W (fun g => lo ≤ g) x cs) (hk : Kp lo W.heap.size W W') (hl : lo' ≤ lo) : ExAt W' (fun g => lo' ≤ g) x cs := h.move fun g hg lt => ⟨Nt hl hg, hk g hg lt⟩
theorem ExsAt.kp {W W' : World} {lo lo' : Nat} {x : List Ex} {cs : List Value} (h : ExsAt W (fun g => lo ≤ g) x cs) (hk : Kp lo W.heap.size W W') (hl : lo' ≤ lo) : ExsAt W' (fun g => lo' ≤ g) x cs := h.move fun g hg lt => ⟨Nt hl hg, hk g hg lt⟩
theorem BndsAt.kp {W W' : World} {lo lo' : Nat} {x : List Bnd} {cs : List Value} (h : BndsAt W (fun g => lo ≤ g) x cs) (hk : Kp lo W.heap.size W W') (hl : lo' ≤ lo) : BndsAt W' (fun g => lo' ≤ g) x cs := h.move fun g hg lt => ⟨Nt hl hg, hk g hg lt⟩
theorem AltsAt.kp {W W' : World} {lo lo' : Nat} {x : List Alt} {cs : List Value} (h : AltsAt W (fun g => lo ≤ g) x cs) (hk : Kp lo W.heap.size W W') (hl : lo' ≤ lo) : AltsAt W' (fun g => lo' ≤ g) x cs := h.move fun g hg lt => ⟨Nt hl hg, hk g hg lt⟩
theorem RowAt.kp {W W' : World} {lo lo' : Nat} {e : TypeId} {size : Nat} {v : Value} {n : Nat} {xs : List Value} (h : RowAt W (fun g => lo ≤ g) e size v n xs) (hk : Kp lo W.heap.size W W') (hl : lo' ≤ lo) : RowAt W' (fun g => lo' ≤ g) e size v n xs := h.move fun g hg lt => ⟨Nt hl hg, hk g hg lt⟩
theorem RowAt.own {W : World} {lo : Nat} {e : TypeId} {size : Nat} {v : Value} {n : Nat} {xs : List Value} (h : W.ownsRow lo e size v n xs) : RowAt W (fun g => lo ≤ g) e size v n xs := RowAt.of h fun _ h => h
theorem ExAt.withKids {W : World} {K : Nat → Prop} {a : Ex} {k nm f u vp vk vb va v : Value} (h : ExAt W K a [k, nm, f, u, vp, vk, vb, va]) {xs : List Ex} {cs : List Value} (hk : RowAt W K 34 8 v xs.length cs) (hx : ExsAt W K xs cs) : ExAt W K (a.withKids xs) [k, nm, f, u, vp, v, vb, va] := by
  cases h with
  | mk k n f x ps ks bs al vp vk vb va xk xb xa hp hk0 hb ha tk tb ta => exact .mk k n f x ps xs bs al vp v vb va cs xb xa hp hk hb ha hx tb ta
theorem ExAt.kids {W : World} {K : Nat → Prop} {v : Value} {xs : List Ex} {cs : List Value} (k : Int) (n : Nm) (hk : RowAt W K 34 8 v xs.length cs) (hx : ExsAt W K xs cs) : ExAt W K (.mk k n false 0 [] xs [] []) [.int .i64 k, .string (tx n), .bool false, .int .u64 0, .slice none 0 0, v, .slice none 0 0, .slice none 0 0] :=
  .mk k n false 0 [] xs [] [] _ v _ _ cs [] [] (RowAt.nil _ _ _ _) hk (RowAt.nil _ _ _ _) (RowAt.nil _ _ _ _) hx .nil .nil
theorem own_built {W : World} {g base : Nat} {e : TypeId} {size n : Nat} {cs : Array Value} (hg : W.heap[g]? = some (.cells cs e)) (hb : base ≤ g) (hs : cs.size = n * size) (hn : n ≤ maxLen) : W.ownsRow base e size (.slice (some ⟨g, 0, none⟩) n n) n cs.toList :=
  ⟨by rw [Array.length_toList]; exact hs, Or.inr ⟨g, n, cs, rfl, hb, hg, Nat.le_refl _, hn, hs, by rw [← hs, ← Array.length_toList]; exact List.take_length⟩⟩
theorem own_news {W : World} {base : Nat} {e : TypeId} {size n : Nat} {a : Addr} {c : Nat} {xs : List Value} (h : W.ownsRow base e size (.slice (some a) n c) n xs) : ∀ j u, xs[j]? = some u → W.cell? (a.add j) = some u := by
  obtain ⟨h0, ⟨h, -⟩ | ⟨g, cap, cur, h, h2, h3, h4, h5, h6, h7⟩⟩ := h
  · cases h
  · cases h
    intro j u hj
    have hadd : (⟨g, 0, none⟩ : Addr).add j = ⟨g, j, none⟩ := by unfold Addr.add; split <;> simp_all
    rw [hadd, cell_of_row W g j cur e (0, 0) h3]
    rw [← h7] at hj
    have := List.getElem?_take (l := cur.toList) (i := n * size) (j := j)
    rw [hj] at this
    split at this
    · simpa using this.symm
    · cases this
theorem ExAt.one {W : World} {K : Nat → Prop} {x : Ex} {cs : List Value} (h : ExAt W K x cs) : ∀ u ∈ cs, u.oneCell' = true := by
  cases h with
  | mk k n f x ps ks bs al vp vk vb va xk xb xa hp hk hb ha tk tb ta =>
    obtain ⟨_, _, _, rfl⟩ := hp.slice
    obtain ⟨_, _, _, rfl⟩ := hk.slice
    obtain ⟨_, _, _, rfl⟩ := hb.slice
    obtain ⟨_, _, _, rfl⟩ := ha.slice
    intro u hu
    simp at hu
    rcases hu with rfl | rfl | rfl | rfl | rfl | rfl | rfl | rfl <;> rfl
theorem ExsAt.one {W : World} {K : Nat → Prop} : ∀ {es : List Ex} {xs : List Value}, ExsAt W K es xs → ∀ u ∈ xs, u.oneCell' = true
  | [], _, .nil => fun u hu => by cases hu
  | _ :: _, _, .cons _ _ cs xs h t => fun u hu => by
    rcases List.mem_append.1 hu with hu | hu
    · exact h.one u hu
    · exact t.one u hu
theorem ExsAt.len {W : World} {K : Nat → Prop} : ∀ {es : List Ex} {xs : List Value}, ExsAt W K es xs → xs.length = es.length * 8
  | [], _, .nil => rfl
  | _ :: es, _, .cons _ _ cs xs h t => by
    have h8 : cs.length = 8 := by cases h; rfl
    have := t.len
    simp only [List.length_append, List.length_cons, h8, this]
    omega
abbrev Fo := Option (Int × Nm)
def twiceL : List Nm → List Nm → Option Nm
  | _, [] => none
  | seen, x :: r => if x ∈ seen then some x else twiceL (seen ++ [x]) r
def twF (l : List Nm) : Fo := (twiceL [] l).map fun n => (5, n)
def hasF (l : List Nm) (n : Nm) : Fo := if n ∈ l then none else some (4, n)
def bNames (bs : List (Nm × List Nm × Ex)) : List Nm := bs.map (·.1)
mutual
def scE (cs sc : List Nm) : Ex → Fo
  | .mk k n _ _ ps ks bs al =>
    if k = 1 then hasF sc n
    else if k = 2 then (hasF cs n).or (scEs cs sc ks)
    else if k = 6 then (twF (bNames bs)).or ((scBs cs (sc ++ bNames bs) bs).or (scEs cs (sc ++ bNames bs) ks))
    else if k = 7 then (scEs cs sc ks).or (scAs cs sc al)
    else if k = 8 then (twF ps).or (scEs cs (sc ++ ps) ks)
    else scEs cs sc ks
def scEs (cs sc : List Nm) : List Ex → Fo
  | [] => none
  | e :: r => (scE cs sc e).or (scEs cs sc r)
def scBs (cs sc : List Nm) : List (Nm × List Nm × Ex) → Fo
  | [] => none
  | (_, ps, e) :: r => ((twF ps).or (scE cs (sc ++ ps) e)).or (scBs cs sc r)
def scAs (cs sc : List Nm) : List (Int × Nm × Bool × Int × List Nm × Ex) → Fo
  | [] => none
  | (k, n, _, _, ns, e) :: r => (if k = 0 then (hasF cs n).or ((twF ns).or (scE cs (sc ++ ns) e)) else if k = 2 then scE cs (sc ++ [n]) e else scE cs sc e).or (scAs cs sc r)
end
mutual
def sdE (cs sc : List Nm) : Ex → Fo
  | .mk k n _ _ ps ks bs al =>
    if k = 1 then (hasF sc n).or ((sdEs cs sc ks).or (sdAs cs sc al))
    else if k = 2 then (hasF cs n).or ((sdEs cs sc ks).or (sdAs cs sc al))
    else if k = 6 then (twF (bNames bs)).or ((sdBs cs (sc ++ bNames bs) bs).or ((sdEs cs (sc ++ bNames bs) ks).or (sdAs cs (sc ++ bNames bs) al)))
    else if k = 8 then (twF ps).or ((sdEs cs (sc ++ ps) ks).or (sdAs cs (sc ++ ps) al))
    else (sdEs cs sc ks).or (sdAs cs sc al)
def sdEs (cs sc : List Nm) : List Ex → Fo
  | [] => none
  | e :: r => (sdE cs sc e).or (sdEs cs sc r)
def sdBs (cs sc : List Nm) : List (Nm × List Nm × Ex) → Fo
  | [] => none
  | (_, ps, e) :: r => ((twF ps).or (sdE cs (sc ++ ps) e)).or (sdBs cs sc r)
def sdAs (cs sc : List Nm) : List (Int × Nm × Bool × Int × List Nm × Ex) → Fo
  | [] => none
  | (k, n, _, _, ns, e) :: r => (if k = 0 then (hasF cs n).or ((twF ns).or (sdE cs (sc ++ ns) e)) else if k = 2 then sdE cs (sc ++ [n]) e else sdE cs sc e).or (sdAs cs sc r)
end
def four : List (Nm × Int) := [([70, 97, 108, 115, 101], 0), ([84, 114, 117, 101], 0), ([78, 111, 116, 104, 105, 110, 103], 0), ([74, 117, 115, 116], 1)]
def mainL : Nm := [109, 97, 105, 110]
def conNames (m : Md) : List Nm := (four ++ m.1).map (·.1)
def scM (m : Md) : Fo := (twF (conNames m)).or ((twF (bNames m.2)).or ((if mainL ∈ bNames m.2 then none else some (10, mainL)).or (scBs (conNames m) (bNames m.2) m.2)))
def sdM (m : Md) : Fo := (twF (conNames m)).or ((twF (bNames m.2)).or ((if mainL ∈ bNames m.2 then none else some (10, mainL)).or (sdBs (conNames m) (bNames m.2) m.2)))
def SetEq (a b : List Nm) : Prop := ∀ x, x ∈ a ↔ x ∈ b
theorem SetEq.app {a b : List Nm} (h : SetEq a b) (c : List Nm) : SetEq (a ++ c) (b ++ c) := fun x => by simp only [List.mem_append, h x]
theorem namesV_get : ∀ {l : List Nm} {j : Nat} (hj : j < l.length), (namesV l)[j]? = some (.string (tx l[j]))
  | l, j, hj => by simp [namesV, hj]
theorem below_dN {n : Nat} {w w' : World} (h : Below n w w') (k : Nat) : Below n w (w'.drewN k) := ⟨h.os, h.tape, h.output, h.size, h.block⟩
theorem tx_ne {a b : Nm} (h : a ≠ b) : ((tx a).toList == (tx b).toList) = false := beq_eq_false_iff_ne.2 (fun e => h (by
  rw [ByteArray.toList_eq, ByteArray.toList_eq] at e
  simpa [tx] using e))
theorem in_any (l : List Nm) (n : Nm) (a : Option Addr) (c : Nat) (K : Nat → Prop) (w : World) (h : RowAt w K 9 1 (.slice a l.length c) l.length (namesV l)) :
    Calls Try.prog 17 #[.slice a l.length c, .string (tx n)] w fun e w' => e = .returned (.bool (decide (n ∈ l))) ∧ Below w.heap.size w w' := by
  have HO := Hd h
  have hmx := h.cap
  unfold maxLen at hmx
  clear h
  go_enter Try.func17, Try.ntmps17
  go_wp2_with fail
  go_loopw [5] (fun s3 wr => ∃ j : Nat, j ≤ l.length ∧ s3 = .int .i64 j ∧ Below w.heap.size w wr ∧ n ∉ l.take j) (fun s3 _ => l.length - (RowKit.intOf s3).toNat)
  case atStart => exact ⟨0, Nat.zero_le _, rfl, Below.refl _ _, by simp⟩
  case round =>
    obtain ⟨j, hj, rfl, hbr, hno⟩ := hrel
    have HBR := Hd (Ai hbr hno)
    clear hbr hno
    by_cases gj : j < l.length
    · have gj' : (j : Int) < (l.length : Int) := by omega
      obtain ⟨g1, o1, ea1, k1, m1', -, ht1⟩ := HO.out.at (by omega)
      subst ea1
      have p0 := later' HBR.out.1 (ht1 j _ (namesV_get gj))
      have HT := Hd (show l.take (j + 1) = l.take j ++ [l[j]] from List.take_succ_eq_append_getElem gj)
      have HM := Hd (List.getElem_mem gj)
      generalize l[j] = tk at *
      have ej : IntKind.i64.wrap ((j : Int) + 1) = (j : Int) + 1 := by rw [IntKind.wrap_i64]; omega
      have b0 : (0 : Int) ≤ (j : Int) := by omega
      clear ht1
      by_cases ge : tk = n
      · subst ge
        have he : ((tx tk).toList == (tx tk).toList) = true := by simp
        have hd : decide (tk ∈ l) = true := decide_eq_true HM.out
        go_wp2_with fail
        go_ret
        exact ⟨by rw [hd]; rfl, HBR.out.1⟩
      · have he := tx_ne ge
        go_wp2_with fail
        refine ⟨⟨j + 1, by omega, by go_num, HBR.out.1, fun hm => ?_⟩, by simp [RowKit.intOf]; omega⟩
        rw [HT.out] at hm
        rcases List.mem_append.1 hm with hm | hm
        · exact HBR.out.2 hm
        · exact ge (List.mem_singleton.1 hm).symm
    · obtain rfl : j = l.length := by omega
      have hd : decide (n ∈ l) = false := decide_eq_false (by have h := HBR.out.2; rwa [List.take_length] at h)
      go_wp2_with fail
      go_ret
      exact ⟨by rw [hd]; rfl, HBR.out.1⟩
theorem BoxW.q8 {W : World} {p : Nat} {a0 a1 a2 a3 a4 a5 a6 a7 : Value} (h : BoxW W p [a0, a1, a2, a3, a4, a5, a6, a7]) : W.cell? ⟨p, 0, none⟩ = some a0 ∧ W.cell? ⟨p, 1, none⟩ = some a1 ∧ W.cell? ⟨p, 2, none⟩ = some a2 ∧ W.cell? ⟨p, 3, none⟩ = some a3 ∧ W.cell? ⟨p, 4, none⟩ = some a4 ∧ W.cell? ⟨p, 5, none⟩ = some a5 ∧ W.cell? ⟨p, 6, none⟩ = some a6 ∧ W.cell? ⟨p, 7, none⟩ = some a7 := ⟨h.1 0 _ rfl, h.1 1 _ rfl, h.1 2 _ rfl, h.1 3 _ rfl, h.1 4 _ rfl, h.1 5 _ rfl, h.1 6 _ rfl, h.1 7 _ rfl⟩
theorem BoxW.z8 {W : World} {p : Nat} {cs : List Value} (h : BoxW W p cs) : W.frozen? ⟨p, 0, none⟩ = false ∧ W.frozen? ⟨p, 1, none⟩ = false ∧ W.frozen? ⟨p, 2, none⟩ = false ∧ W.frozen? ⟨p, 3, none⟩ = false ∧ W.frozen? ⟨p, 4, none⟩ = false ∧ W.frozen? ⟨p, 5, none⟩ = false ∧ W.frozen? ⟨p, 6, none⟩ = false ∧ W.frozen? ⟨p, 7, none⟩ = false := ⟨h.2 0, h.2 1, h.2 2, h.2 3, h.2 4, h.2 5, h.2 6, h.2 7⟩
theorem BoxW.q10 {W : World} {p : Nat} {a0 a1 a2 a3 a4 a5 a6 a7 a8 a9 : Value} (h : BoxW W p [a0, a1, a2, a3, a4, a5, a6, a7, a8, a9]) : W.cell? ⟨p, 0, none⟩ = some a0 ∧ W.cell? ⟨p, 1, none⟩ = some a1 ∧ W.cell? ⟨p, 2, none⟩ = some a2 ∧ W.cell? ⟨p, 3, none⟩ = some a3 ∧ W.cell? ⟨p, 4, none⟩ = some a4 ∧ W.cell? ⟨p, 5, none⟩ = some a5 ∧ W.cell? ⟨p, 6, none⟩ = some a6 ∧ W.cell? ⟨p, 7, none⟩ = some a7 ∧ W.cell? ⟨p, 8, none⟩ = some a8 ∧ W.cell? ⟨p, 9, none⟩ = some a9 := ⟨h.1 0 _ rfl, h.1 1 _ rfl, h.1 2 _ rfl, h.1 3 _ rfl, h.1 4 _ rfl, h.1 5 _ rfl, h.1 6 _ rfl, h.1 7 _ rfl, h.1 8 _ rfl, h.1 9 _ rfl⟩
theorem BoxW.z10 {W : World} {p : Nat} {cs : List Value} (h : BoxW W p cs) : W.frozen? ⟨p, 0, none⟩ = false ∧ W.frozen? ⟨p, 1, none⟩ = false ∧ W.frozen? ⟨p, 2, none⟩ = false ∧ W.frozen? ⟨p, 3, none⟩ = false ∧ W.frozen? ⟨p, 4, none⟩ = false ∧ W.frozen? ⟨p, 5, none⟩ = false ∧ W.frozen? ⟨p, 6, none⟩ = false ∧ W.frozen? ⟨p, 7, none⟩ = false ∧ W.frozen? ⟨p, 8, none⟩ = false ∧ W.frozen? ⟨p, 9, none⟩ = false := ⟨h.2 0, h.2 1, h.2 2, h.2 3, h.2 4, h.2 5, h.2 6, h.2 7, h.2 8, h.2 9⟩
theorem BoxW.q13 {W : World} {p : Nat} {a0 a1 a2 a3 a4 a5 a6 a7 a8 a9 a10 a11 a12 : Value} (h : BoxW W p [a0, a1, a2, a3, a4, a5, a6, a7, a8, a9, a10, a11, a12]) : W.cell? ⟨p, 0, none⟩ = some a0 ∧ W.cell? ⟨p, 1, none⟩ = some a1 ∧ W.cell? ⟨p, 2, none⟩ = some a2 ∧ W.cell? ⟨p, 3, none⟩ = some a3 ∧ W.cell? ⟨p, 4, none⟩ = some a4 ∧ W.cell? ⟨p, 5, none⟩ = some a5 ∧ W.cell? ⟨p, 6, none⟩ = some a6 ∧ W.cell? ⟨p, 7, none⟩ = some a7 ∧ W.cell? ⟨p, 8, none⟩ = some a8 ∧ W.cell? ⟨p, 9, none⟩ = some a9 ∧ W.cell? ⟨p, 10, none⟩ = some a10 ∧ W.cell? ⟨p, 11, none⟩ = some a11 ∧ W.cell? ⟨p, 12, none⟩ = some a12 := ⟨h.1 0 _ rfl, h.1 1 _ rfl, h.1 2 _ rfl, h.1 3 _ rfl, h.1 4 _ rfl, h.1 5 _ rfl, h.1 6 _ rfl, h.1 7 _ rfl, h.1 8 _ rfl, h.1 9 _ rfl, h.1 10 _ rfl, h.1 11 _ rfl, h.1 12 _ rfl⟩
theorem BoxW.z13 {W : World} {p : Nat} {cs : List Value} (h : BoxW W p cs) : W.frozen? ⟨p, 0, none⟩ = false ∧ W.frozen? ⟨p, 1, none⟩ = false ∧ W.frozen? ⟨p, 2, none⟩ = false ∧ W.frozen? ⟨p, 3, none⟩ = false ∧ W.frozen? ⟨p, 4, none⟩ = false ∧ W.frozen? ⟨p, 5, none⟩ = false ∧ W.frozen? ⟨p, 6, none⟩ = false ∧ W.frozen? ⟨p, 7, none⟩ = false ∧ W.frozen? ⟨p, 8, none⟩ = false ∧ W.frozen? ⟨p, 9, none⟩ = false ∧ W.frozen? ⟨p, 10, none⟩ = false ∧ W.frozen? ⟨p, 11, none⟩ = false ∧ W.frozen? ⟨p, 12, none⟩ = false := ⟨h.2 0, h.2 1, h.2 2, h.2 3, h.2 4, h.2 5, h.2 6, h.2 7, h.2 8, h.2 9, h.2 10, h.2 11, h.2 12⟩
theorem Rdr.o2 {W : World} {b me ma : Nat} {last : Int} {rest : List Tok} {d p i0 i1 : Nat} {v0 v1 : Value} (h : Rdr W b me ma last rest d) (hp : b < p) : Rdr ((W.setCell ⟨p, i0, none⟩ v0).setCell ⟨p, i1, none⟩ v1) b me ma last rest d := (h.over hp _).over hp _
theorem gn2 {w W : World} {b p i0 i1 : Nat} {v0 v1 : Value} (h : w.grownBy W (some b)) (hp : w.heap.size ≤ p) : w.grownBy ((W.setCell ⟨p, i0, none⟩ v0).setCell ⟨p, i1, none⟩ v1) (some b) := grown_new (grown_new h hp _) hp _
theorem Kp.s2 {lo hi : Nat} {W : World} {p i0 i1 : Nat} {v0 v1 : Value} (h : p < lo ∨ hi ≤ p) : Kp lo hi W ((W.setCell ⟨p, i0, none⟩ v0).setCell ⟨p, i1, none⟩ v1) := (Kp.set _ _ _ _ h).trans (Kp.set _ _ _ _ h)
theorem Rdr.o8 {W : World} {b me ma : Nat} {last : Int} {rest : List Tok} {d p i0 i1 i2 i3 i4 i5 i6 i7 : Nat} {v0 v1 v2 v3 v4 v5 v6 v7 : Value} (h : Rdr W b me ma last rest d) (hp : b < p) : Rdr ((((((((W.setCell ⟨p, i0, none⟩ v0).setCell ⟨p, i1, none⟩ v1).setCell ⟨p, i2, none⟩ v2).setCell ⟨p, i3, none⟩ v3).setCell ⟨p, i4, none⟩ v4).setCell ⟨p, i5, none⟩ v5).setCell ⟨p, i6, none⟩ v6).setCell ⟨p, i7, none⟩ v7) b me ma last rest d := (((((((h.over hp _).over hp _).over hp _).over hp _).over hp _).over hp _).over hp _).over hp _
theorem gn8 {w W : World} {b p i0 i1 i2 i3 i4 i5 i6 i7 : Nat} {v0 v1 v2 v3 v4 v5 v6 v7 : Value} (h : w.grownBy W (some b)) (hp : w.heap.size ≤ p) : w.grownBy ((((((((W.setCell ⟨p, i0, none⟩ v0).setCell ⟨p, i1, none⟩ v1).setCell ⟨p, i2, none⟩ v2).setCell ⟨p, i3, none⟩ v3).setCell ⟨p, i4, none⟩ v4).setCell ⟨p, i5, none⟩ v5).setCell ⟨p, i6, none⟩ v6).setCell ⟨p, i7, none⟩ v7) (some b) := grown_new (grown_new (grown_new (grown_new (grown_new (grown_new (grown_new (grown_new h hp _) hp _) hp _) hp _) hp _) hp _) hp _) hp _
theorem Kp.s8 {lo hi : Nat} {W : World} {p i0 i1 i2 i3 i4 i5 i6 i7 : Nat} {v0 v1 v2 v3 v4 v5 v6 v7 : Value} (h : p < lo ∨ hi ≤ p) : Kp lo hi W ((((((((W.setCell ⟨p, i0, none⟩ v0).setCell ⟨p, i1, none⟩ v1).setCell ⟨p, i2, none⟩ v2).setCell ⟨p, i3, none⟩ v3).setCell ⟨p, i4, none⟩ v4).setCell ⟨p, i5, none⟩ v5).setCell ⟨p, i6, none⟩ v6).setCell ⟨p, i7, none⟩ v7) := (((((((Kp.set _ _ _ _ h).trans (Kp.set _ _ _ _ h)).trans (Kp.set _ _ _ _ h)).trans (Kp.set _ _ _ _ h)).trans (Kp.set _ _ _ _ h)).trans (Kp.set _ _ _ _ h)).trans (Kp.set _ _ _ _ h)).trans (Kp.set _ _ _ _ h)
theorem Kp.s10 {lo hi : Nat} {W : World} {p i0 i1 i2 i3 i4 i5 i6 i7 i8 i9 : Nat} {v0 v1 v2 v3 v4 v5 v6 v7 v8 v9 : Value} (h : p < lo ∨ hi ≤ p) : Kp lo hi W ((((((((((W.setCell ⟨p, i0, none⟩ v0).setCell ⟨p, i1, none⟩ v1).setCell ⟨p, i2, none⟩ v2).setCell ⟨p, i3, none⟩ v3).setCell ⟨p, i4, none⟩ v4).setCell ⟨p, i5, none⟩ v5).setCell ⟨p, i6, none⟩ v6).setCell ⟨p, i7, none⟩ v7).setCell ⟨p, i8, none⟩ v8).setCell ⟨p, i9, none⟩ v9) := (((((((((Kp.set _ _ _ _ h).trans (Kp.set _ _ _ _ h)).trans (Kp.set _ _ _ _ h)).trans (Kp.set _ _ _ _ h)).trans (Kp.set _ _ _ _ h)).trans (Kp.set _ _ _ _ h)).trans (Kp.set _ _ _ _ h)).trans (Kp.set _ _ _ _ h)).trans (Kp.set _ _ _ _ h)).trans (Kp.set _ _ _ _ h)
theorem Kp.s13 {lo hi : Nat} {W : World} {p i0 i1 i2 i3 i4 i5 i6 i7 i8 i9 i10 i11 i12 : Nat} {v0 v1 v2 v3 v4 v5 v6 v7 v8 v9 v10 v11 v12 : Value} (h : p < lo ∨ hi ≤ p) : Kp lo hi W (((((((((((((W.setCell ⟨p, i0, none⟩ v0).setCell ⟨p, i1, none⟩ v1).setCell ⟨p, i2, none⟩ v2).setCell ⟨p, i3, none⟩ v3).setCell ⟨p, i4, none⟩ v4).setCell ⟨p, i5, none⟩ v5).setCell ⟨p, i6, none⟩ v6).setCell ⟨p, i7, none⟩ v7).setCell ⟨p, i8, none⟩ v8).setCell ⟨p, i9, none⟩ v9).setCell ⟨p, i10, none⟩ v10).setCell ⟨p, i11, none⟩ v11).setCell ⟨p, i12, none⟩ v12) := ((((((((((((Kp.set _ _ _ _ h).trans (Kp.set _ _ _ _ h)).trans (Kp.set _ _ _ _ h)).trans (Kp.set _ _ _ _ h)).trans (Kp.set _ _ _ _ h)).trans (Kp.set _ _ _ _ h)).trans (Kp.set _ _ _ _ h)).trans (Kp.set _ _ _ _ h)).trans (Kp.set _ _ _ _ h)).trans (Kp.set _ _ _ _ h)).trans (Kp.set _ _ _ _ h)).trans (Kp.set _ _ _ _ h)).trans (Kp.set _ _ _ _ h)
theorem BoxW.b8 {W : World} {p : Nat} {a0 a1 a2 a3 a4 a5 a6 a7 v0 v1 v2 v3 v4 v5 v6 v7 : Value} (h : BoxW W p [a0, a1, a2, a3, a4, a5, a6, a7]) : BoxW ((((((((W.setCell ⟨p, 0, none⟩ v0).setCell ⟨p, 1, none⟩ v1).setCell ⟨p, 2, none⟩ v2).setCell ⟨p, 3, none⟩ v3).setCell ⟨p, 4, none⟩ v4).setCell ⟨p, 5, none⟩ v5).setCell ⟨p, 6, none⟩ v6).setCell ⟨p, 7, none⟩ v7) p [v0, v1, v2, v3, v4, v5, v6, v7] := (((((((h.set 0 (show 0 < 8 by decide) v0).set 1 (show 1 < 8 by decide) v1).set 2 (show 2 < 8 by decide) v2).set 3 (show 3 < 8 by decide) v3).set 4 (show 4 < 8 by decide) v4).set 5 (show 5 < 8 by decide) v5).set 6 (show 6 < 8 by decide) v6).set 7 (show 7 < 8 by decide) v7
theorem BoxW.b8v {W : World} {p : Nat} {a0 a1 a2 a3 a4 a5 a6 a7 : Value} (h : BoxW W p [a0, a1, a2, a3, a4, a5, a6, a7]) (v0 v1 v2 v3 v4 v5 v6 v7 : Value) : BoxW ((((((((W.setCell ⟨p, 0, none⟩ v0).setCell ⟨p, 1, none⟩ v1).setCell ⟨p, 2, none⟩ v2).setCell ⟨p, 3, none⟩ v3).setCell ⟨p, 4, none⟩ v4).setCell ⟨p, 5, none⟩ v5).setCell ⟨p, 6, none⟩ v6).setCell ⟨p, 7, none⟩ v7) p [v0, v1, v2, v3, v4, v5, v6, v7] := (((((((h.set 0 (show 0 < 8 by decide) v0).set 1 (show 1 < 8 by decide) v1).set 2 (show 2 < 8 by decide) v2).set 3 (show 3 < 8 by decide) v3).set 4 (show 4 < 8 by decide) v4).set 5 (show 5 < 8 by decide) v5).set 6 (show 6 < 8 by decide) v6).set 7 (show 7 < 8 by decide) v7
theorem BoxW.b10v {W : World} {p : Nat} {a0 a1 a2 a3 a4 a5 a6 a7 a8 a9 : Value} (h : BoxW W p [a0, a1, a2, a3, a4, a5, a6, a7, a8, a9]) (v0 v1 v2 v3 v4 v5 v6 v7 v8 v9 : Value) : BoxW ((((((((((W.setCell ⟨p, 0, none⟩ v0).setCell ⟨p, 1, none⟩ v1).setCell ⟨p, 2, none⟩ v2).setCell ⟨p, 3, none⟩ v3).setCell ⟨p, 4, none⟩ v4).setCell ⟨p, 5, none⟩ v5).setCell ⟨p, 6, none⟩ v6).setCell ⟨p, 7, none⟩ v7).setCell ⟨p, 8, none⟩ v8).setCell ⟨p, 9, none⟩ v9) p [v0, v1, v2, v3, v4, v5, v6, v7, v8, v9] := (((((((((h.set 0 (show 0 < 10 by decide) v0).set 1 (show 1 < 10 by decide) v1).set 2 (show 2 < 10 by decide) v2).set 3 (show 3 < 10 by decide) v3).set 4 (show 4 < 10 by decide) v4).set 5 (show 5 < 10 by decide) v5).set 6 (show 6 < 10 by decide) v6).set 7 (show 7 < 10 by decide) v7).set 8 (show 8 < 10 by decide) v8).set 9 (show 9 < 10 by decide) v9
theorem BoxW.b13v {W : World} {p : Nat} {a0 a1 a2 a3 a4 a5 a6 a7 a8 a9 a10 a11 a12 : Value} (h : BoxW W p [a0, a1, a2, a3, a4, a5, a6, a7, a8, a9, a10, a11, a12]) (v0 v1 v2 v3 v4 v5 v6 v7 v8 v9 v10 v11 v12 : Value) : BoxW (((((((((((((W.setCell ⟨p, 0, none⟩ v0).setCell ⟨p, 1, none⟩ v1).setCell ⟨p, 2, none⟩ v2).setCell ⟨p, 3, none⟩ v3).setCell ⟨p, 4, none⟩ v4).setCell ⟨p, 5, none⟩ v5).setCell ⟨p, 6, none⟩ v6).setCell ⟨p, 7, none⟩ v7).setCell ⟨p, 8, none⟩ v8).setCell ⟨p, 9, none⟩ v9).setCell ⟨p, 10, none⟩ v10).setCell ⟨p, 11, none⟩ v11).setCell ⟨p, 12, none⟩ v12) p [v0, v1, v2, v3, v4, v5, v6, v7, v8, v9, v10, v11, v12] := ((((((((((((h.set 0 (show 0 < 13 by decide) v0).set 1 (show 1 < 13 by decide) v1).set 2 (show 2 < 13 by decide) v2).set 3 (show 3 < 13 by decide) v3).set 4 (show 4 < 13 by decide) v4).set 5 (show 5 < 13 by decide) v5).set 6 (show 6 < 13 by decide) v6).set 7 (show 7 < 13 by decide) v7).set 8 (show 8 < 13 by decide) v8).set 9 (show 9 < 13 by decide) v9).set 10 (show 10 < 13 by decide) v10).set 11 (show 11 < 13 by decide) v11).set 12 (show 12 < 13 by decide) v12
theorem BoxW.b13_5_8 {W : World} {p : Nat} {a0 a1 a2 a3 a4 a5 a6 a7 a8 a9 a10 a11 a12 v5 v6 v7 v8 v9 v10 v11 v12 : Value} (h : BoxW W p [a0, a1, a2, a3, a4, a5, a6, a7, a8, a9, a10, a11, a12]) : BoxW ((((((((W.setCell ⟨p, 5, none⟩ v5).setCell ⟨p, 6, none⟩ v6).setCell ⟨p, 7, none⟩ v7).setCell ⟨p, 8, none⟩ v8).setCell ⟨p, 9, none⟩ v9).setCell ⟨p, 10, none⟩ v10).setCell ⟨p, 11, none⟩ v11).setCell ⟨p, 12, none⟩ v12) p [a0, a1, a2, a3, a4, v5, v6, v7, v8, v9, v10, v11, v12] := (((((((h.set 5 (show 5 < 13 by decide) v5).set 6 (show 6 < 13 by decide) v6).set 7 (show 7 < 13 by decide) v7).set 8 (show 8 < 13 by decide) v8).set 9 (show 9 < 13 by decide) v9).set 10 (show 10 < 13 by decide) v10).set 11 (show 11 < 13 by decide) v11).set 12 (show 12 < 13 by decide) v12
theorem BoxW.b13_2_2 {W : World} {p : Nat} {a0 a1 a2 a3 a4 a5 a6 a7 a8 a9 a10 a11 a12 v2 v3 : Value} (h : BoxW W p [a0, a1, a2, a3, a4, a5, a6, a7, a8, a9, a10, a11, a12]) : BoxW ((W.setCell ⟨p, 2, none⟩ v2).setCell ⟨p, 3, none⟩ v3) p [a0, a1, v2, v3, a4, a5, a6, a7, a8, a9, a10, a11, a12] := (h.set 2 (show 2 < 13 by decide) v2).set 3 (show 3 < 13 by decide) v3
def stN (st : Fo) : Int × Nm := st.getD (0, [])
structure SAt (w : World) (b : Nat) (st : Fo) (vc : Value) : Prop where
  box : BoxW w b [.int .i64 (stN st).1, .string (tx (stN st).2), vc]
  ok : ∀ x, st = some x → x.1 ≠ 0
theorem SAt.later {w w' : World} {b : Nat} {st : Fo} {vc : Value} (h : SAt w b st vc) (hb : Below w.heap.size w w') : SAt w' b st vc := ⟨h.box.below hb, h.ok⟩
theorem RowAt.past {w w' : World} {K : Nat → Prop} {e : TypeId} {size n b : Nat} {v : Value} {xs : List Value} (h : RowAt w K e size v n xs) (hg : w.grownBy w' (some b)) (hK : ∀ g, K g → g ≠ b) : RowAt w' K e size v n xs :=
  h.move fun g hk lt => ⟨hk, hg.block g lt (fun e => hK g hk (Oi e))⟩
theorem Kp.past {lo hi : Nat} {W W' : World} {q : Nat} (hg : W.grownBy W' (some q)) (hq : hi ≤ q) (hi' : hi ≤ W.heap.size) : Kp lo hi W W' := fun g _ h2 => hg.block g (by omega) (by simp; omega)
def BndV (lo : Nat) (x : Bnd) (e : Ending) (w : World) : Prop :=
  ∃ vp k n f u vq vk vb va, e = .returned (.agg #[.string (tx x.1), vp, .int .i64 k, .string n, .bool f, .int .u64 u, vq, vk, vb, va]) ∧ RowAt w (fun g => lo ≤ g) 9 1 vp x.2.1.length (namesV x.2.1) ∧ ExAt w (fun g => lo ≤ g) x.2.2 [.int .i64 k, .string n, .bool f, .int .u64 u, vq, vk, vb, va]
def AltV (lo : Nat) (x : Alt) (e : Ending) (w : World) : Prop :=
  ∃ vp k n f u vq vk vb va, e = .returned (.agg #[.int .i64 x.1, .string (tx x.2.1), .bool x.2.2.1, .int .u64 x.2.2.2.1, vp, .int .i64 k, .string n, .bool f, .int .u64 u, vq, vk, vb, va]) ∧ RowAt w (fun g => lo ≤ g) 9 1 vp x.2.2.2.2.1.length (namesV x.2.2.2.2.1) ∧ ExAt w (fun g => lo ≤ g) x.2.2.2.2.2 [.int .i64 k, .string n, .bool f, .int .u64 u, vq, vk, vb, va]
def BndsV (lo : Nat) (xs : List Bnd) (e : Ending) (w : World) : Prop := ∃ v cs, e = .returned v ∧ w.ownsRow lo 36 10 v xs.length cs ∧ BndsAt w (fun g => lo ≤ g) xs cs
def AltsV (lo : Nat) (xs : List Alt) (e : Ending) (w : World) : Prop := ∃ v cs, e = .returned v ∧ w.ownsRow lo 51 13 v xs.length cs ∧ AltsAt w (fun g => lo ≤ g) xs cs
theorem Try.info_bind : (Try.prog.info? 36).map (fun i => (i.zero, i.size, i.bytes)) = some (some (.agg #[.string ⟨#[]⟩, .slice none 0 0, .int .i64 0, .string ⟨#[]⟩, .bool false, .int .u64 0, .slice none 0 0, .slice none 0 0, .slice none 0 0, .slice none 0 0]), 10, 176) := by kernel_rfl
theorem Try.info_alt : (Try.prog.info? 51).map (fun i => (i.zero, i.size, i.bytes)) = some (some (.agg #[.int .i64 0, .string ⟨#[]⟩, .bool false, .int .u64 0, .slice none 0 0, .int .i64 0, .string ⟨#[]⟩, .bool false, .int .u64 0, .slice none 0 0, .slice none 0 0, .slice none 0 0, .slice none 0 0]), 13, 200) := by kernel_rfl
theorem BndsAt.snoc {W : World} {K : Nat → Prop} : ∀ {bs : List Bnd} {xs : List Value} {x : Bnd} {vp : Value} {cs : List Value}, BndsAt W K bs xs → RowAt W K 9 1 vp x.2.1.length (namesV x.2.1) → ExAt W K x.2.2 cs → BndsAt W K (bs ++ [x]) (xs ++ (.string (tx x.1) :: vp :: cs))
  | [], _, (n, ps, e), vp, cs, .nil, hp, h => by simpa using BndsAt.cons n ps e [] vp cs [] hp h .nil
  | _ :: bs, _, x, vp, cs, .cons n ps e _ v0 c0 x0 hp0 h0 t0, hp, h => by simpa [List.append_assoc] using BndsAt.cons n ps e _ v0 c0 _ hp0 h0 (t0.snoc hp h)
theorem AltsAt.snoc {W : World} {K : Nat → Prop} : ∀ {bs : List Alt} {xs : List Value} {x : Alt} {vp : Value} {cs : List Value}, AltsAt W K bs xs → RowAt W K 9 1 vp x.2.2.2.2.1.length (namesV x.2.2.2.2.1) → ExAt W K x.2.2.2.2.2 cs → AltsAt W K (bs ++ [x]) (xs ++ (.int .i64 x.1 :: .string (tx x.2.1) :: .bool x.2.2.1 :: .int .u64 x.2.2.2.1 :: vp :: cs))
  | [], _, (k, n, f, u, ps, e), vp, cs, .nil, hp, h => by simpa using AltsAt.cons k n f u ps e [] vp cs [] hp h .nil
  | _ :: bs, _, x, vp, cs, .cons k n f u ps e _ v0 c0 x0 hp0 h0 t0, hp, h => by simpa [List.append_assoc] using AltsAt.cons k n f u ps e _ v0 c0 _ hp0 h0 (t0.snoc hp h)
def arityO : Par Int := fun l r => if shapeL r = sNum then (takeO l r).bind fun u l2 r2 => if u.1.f = true ∨ 24 < u.1.x then refuseO 1 l r else .ok u.1.x l2 r2 else refuseO 3 l r
end Go.Proofs.Ytdjcdecbmeickaa
