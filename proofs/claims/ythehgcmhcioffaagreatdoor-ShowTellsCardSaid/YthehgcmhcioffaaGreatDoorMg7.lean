import Derived.Maps.OwnSet
import Derived.Maps.OwnOps
import Derived.Maps.Views
import Derived.Shelf.SlMaps.Clone
import Derived.Deep.AppendLies
import Derived.Test.YthehgcmhcioffaaGreatDoorMg3
import Derived.Test.YthehgcmhcioffaaGreatDoorMg4
import Derived.Test.YthehgcmhcioffaaGreatDoorMg5
import Derived.Test.YthehgcmhcioffaaGreatDoorMg6
namespace Go.Proofs.YthehgcmhcioffaaGreatDoor
set_option maxHeartbeats 64000000
set_option maxRecDepth 100000
open Go.RowKit Go.Lib
theorem flat_sum {α : Type} (f : α → List UInt8) : ∀ (l : List α), (l.flatMap f).length = sumN (fun x => (f x).length) l
  | [] => rfl
  | a :: r => by rw [List.flatMap_cons, List.length_append, flat_sum f r]; rfl
theorem sumN_le {α : Type} {f g : α → Nat} : ∀ {l : List α}, (∀ x, x ∈ l → f x ≤ g x) → sumN f l ≤ sumN g l
  | [], _ => Nat.le_refl _
  | a :: r, h => by
    have h1 := h a (List.mem_cons_self ..)
    have h2 := sumN_le (l := r) (fun x hx => h x (List.mem_cons_of_mem _ hx))
    simp only [sumN]
    omega
theorem sumN_mul {α : Type} (A : Nat) (f : α → Nat) : ∀ (l : List α), sumN (fun x => A * f x) l = A * sumN f l
  | [] => by simp [sumN]
  | a :: r => by simp only [sumN]; rw [sumN_mul A f r, Nat.mul_add]
theorem sumN_add {α : Type} (f : α → Nat) (c : Nat) : ∀ (l : List α), sumN (fun x => f x + c) l = sumN f l + c * l.length
  | [] => by simp [sumN]
  | a :: r => by simp only [sumN, List.length_cons]; rw [sumN_add f c r, Nat.mul_add]; omega
theorem words_len (f : List UInt8) (o : List (List UInt8)) : (wordsL f o).length = f.length + sumN (fun x => x.length + 1) o := by
  unfold wordsL
  rw [List.length_append, flat_sum]
  congr 1
theorem join_len (sep : List UInt8) (o : List (List UInt8)) : (joinL sep o).length ≤ sumN (fun x => x.length + sep.length) o := by
  cases o with
  | nil => exact Nat.le_refl _
  | cons a r =>
    unfold joinL
    rw [List.length_append, flat_sum]
    simp only [sumN, List.length_append]
    have : sumN (fun x : List UInt8 => sep.length + x.length) r = sumN (fun x => x.length + sep.length) r := by congr 1; funext x; omega
    omega
theorem sumN_map {α β : Type} (f : β → Nat) (g : α → β) : ∀ (l : List α), sumN f (l.map g) = sumN (fun x => f (g x)) l
  | [] => rfl
  | a :: r => by simp only [List.map_cons, sumN]; rw [sumN_map f g r]
theorem names_sum {ps : List Nm} (h : Nms ps) : sumN (fun x : List UInt8 => x.length + 1) ps ≤ 100001 * ps.length := by
  have h1 := sumN_le (l := ps) (f := fun x : List UInt8 => x.length + 1) (g := fun _ => 100001 * 1) (fun x hx => by have := (h x hx).2; omega)
  have h2 := sumN_mul 100001 (fun _ : Nm => 1) ps
  have h3 : sumN (fun _ : Nm => 1) ps = ps.length := by
    clear h h1 h2
    induction ps with
    | nil => rfl
    | cons a r ih => simp only [sumN, List.length_cons, ih]; omega
  rw [h2, h3] at h1
  exact h1
abbrev LB (e : Ex) : Prop := (shE e).length + 7 ≤ 200000 * wxE e
theorem atoms_sum {ks : List Ex} (h : ∀ e, e ∈ ks → LB e) : sumN (fun e => (atomT e).length + 5) ks ≤ 200000 * sumN wxE ks := by
  rw [← sumN_mul]
  refine sumN_le fun e he => ?_
  have h1 := h e he
  have h2 := (atom_len e).2
  unfold LB at h1
  omega
theorem head_len (ks : List Ex) : (joinL [32] (headL ks (ks.map atomT))).length + ks.length ≤ sumN (fun e => (atomT e).length) ks + 2 * ks.length + 1 ∧ (ks ≠ [] → (joinL [32] (headL ks (ks.map atomT))).length ≤ sumN (fun e => (atomT e).length) ks + ks.length + 1) := by
  cases ks with
  | nil => exact ⟨by decide, fun h => absurd rfl h⟩
  | cons a r =>
    have e : joinL [32] (headL (a :: r) ((a :: r).map atomT)) = (if bareE a then encL (atomT a) else atomT a) ++ (r.map atomT).flatMap (fun x => [32] ++ x) := rfl
    have h1 : (if bareE a then encL (atomT a) else atomT a).length ≤ (atomT a).length + 2 := by
      split
      · rw [enc_len]; omega
      · omega
    have h2 : ((r.map atomT).flatMap (fun x => [32] ++ x)).length = sumN (fun e => (atomT e).length) r + 1 * r.length := by
      rw [flat_sum, sumN_map, ← sumN_add]
      congr 1
    rw [e, List.length_append, h2]
    simp only [sumN, List.length_cons]
    exact ⟨by omega, fun _ => by omega⟩
mutual
theorem shE_len : ∀ (e : Ex), kfE e → wfE e → LB e
  | .mk k n f x ps ks bs al, hk, hw => by
    unfold kfE at hk
    unfold wfE at hw
    obtain ⟨k0, k1, k2, k3, k4, -, k6, k7, k8⟩ := hk
    obtain ⟨-, -, w3, w4, w5, w6, w7, -, -⟩ := hw
    have h1 := atoms_sum (kidsLB ks k6 w5)
    have h2 := bindsLB bs k7 w6
    have h3 := altsLB al k8 w7
    have h4 := names_sum w4
    unfold LB
    rw [shE_mk, wxE_mk]
    have hA : sumN (fun e => (atomT e).length + 5) ks = sumN (fun e => (atomT e).length) ks + 5 * ks.length := sumN_add _ _ _
    have hw1 : (wordsL n (ks.map atomT)).length = n.length + (sumN (fun e => (atomT e).length) ks + 1 * ks.length) := by rw [words_len, sumN_map, sumN_add]
    have hinn : (innT ks).length ≤ sumN (fun e => (atomT e).length) ks := by
      cases ks with
      | nil => exact Nat.le_refl _
      | cons a r =>
        have := (atom_len a).1
        show (shE a).length ≤ (atomT a).length + _
        omega
    by_cases g1 : k = 1
    · subst g1
      rw [if_pos rfl, if_neg (by decide)]
      have := (w3 (Or.inl rfl)).2
      omega
    rw [if_neg g1]
    by_cases g2 : k = 2
    · subst g2
      rw [if_pos rfl, if_neg (by decide), hw1]
      have := (w3 (Or.inr (Or.inl rfl))).2
      omega
    rw [if_neg g2]
    by_cases g3 : k = 3
    · subst g3
      rw [if_pos rfl, if_neg (by decide)]
      have h := k4 rfl
      have := src_len f x h.1 h.2
      unfold nTx
      omega
    rw [if_neg g3]
    by_cases g4 : k = 4
    · subst g4
      rw [if_pos rfl, if_pos rfl]
      have hn := k1 rfl
      have hne : ks ≠ [] := fun q => by rw [q] at hn; simp at hn
      have := (head_len ks).2 hne
      omega
    rw [if_neg g4, if_neg g4]
    by_cases g5 : k = 5
    · subst g5
      rw [if_pos rfl]
      have hn := (w3 (Or.inr (Or.inr rfl))).2
      rcases k3 rfl with ⟨hl, -⟩ | ⟨hl, -, a, b, rfl⟩
      · rw [hl, if_pos rfl, hw1]
        omega
      · rw [hl, if_neg (by decide)]
        have e : joinL (32 :: (n ++ [32])) ([a, b].map atomT) = atomT a ++ ((32 :: (n ++ [32])) ++ atomT b ++ []) := rfl
        rw [e]
        simp only [List.length_append, List.length_cons, List.length_nil]
        simp only [sumN, List.length_cons, List.length_nil] at h1 hA ⊢
        omega
    rw [if_neg g5]
    have hj1 : (joinL [59, 32] (bs.map bindT)).length ≤ sumN (fun b => (bindT b).length + 2) bs := by
      have h := join_len [59, 32] (bs.map bindT)
      rw [sumN_map] at h
      exact h
    have hj2 : (joinL [59, 32] (al.map altT)).length ≤ sumN (fun b => (altT b).length + 2) al := by
      have h := join_len [59, 32] (al.map altT)
      rw [sumN_map] at h
      exact h
    have hj3 : (joinL [32] ps).length ≤ sumN (fun x : List UInt8 => x.length + 1) ps := join_len [32] ps
    by_cases g6 : k = 6
    · subst g6
      rw [if_pos rfl, words_len]
      simp only [sumN, List.length_cons, List.length_nil]
      omega
    rw [if_neg g6]
    by_cases g7 : k = 7
    · subst g7
      rw [if_pos rfl, words_len]
      simp only [sumN, List.length_cons, List.length_nil, List.length_append]
      omega
    rw [if_neg g7]
    by_cases g8 : k = 8
    · subst g8
      rw [if_pos rfl, words_len]
      simp only [sumN, List.length_cons, List.length_nil]
      omega
    · omega
theorem kidsLB : ∀ (l : List Ex), kfEs l → wfEs l → ∀ e, e ∈ l → LB e
  | [], _, _, e, he => by cases he
  | a :: r, hk, hw, e, he => by
    unfold kfEs at hk
    unfold wfEs at hw
    rcases List.mem_cons.1 he with h | h
    · rw [h]; exact shE_len a hk.1 hw.1
    · exact kidsLB r hk.2 hw.2 e h
theorem bindsLB : ∀ (l : List (Nm × List Nm × Ex)), kfBs l → wfBs l → sumN (fun b => (bindT b).length + 2) l ≤ 200000 * sumN xB2 l
  | [], _, _ => Nat.le_refl _
  | (n, ps, e) :: r, hk, hw => by
    unfold kfBs at hk
    unfold wfBs at hw
    have h1 := shE_len e hk.1 hw.1.2.2
    have h2 := bindsLB r hk.2 hw.2
    have h3 := names_sum hw.1.2.1
    have h4 := hw.1.1.2
    have h5 : (bindT (n, ps, e)).length = n.length + sumN (fun x : List UInt8 => x.length + 1) ps + (shE e).length + 3 := by
      show (wordsL (wordsL n ps) [[61], shE e]).length = _
      rw [words_len, words_len]
      simp only [sumN, List.length_cons, List.length_nil]
      omega
    unfold LB at h1
    show ((bindT (n, ps, e)).length + 2) + _ ≤ 200000 * ((2 + ps.length + wxE e) + sumN xB2 r)
    rw [h5]
    omega
theorem altsLB : ∀ (l : List (Int × Nm × Bool × Int × List Nm × Ex)), kfAs l → wfAs l → sumN (fun a => (altT a).length + 2) l ≤ 200000 * sumN xA l
  | [], _, _ => Nat.le_refl _
  | (k, n, f, x, ns, e) :: r, hk, hw => by
    unfold kfAs at hk
    unfold wfAs at hw
    have h1 := shE_len e hk.1.2.2 hw.1.2.2
    have h2 := altsLB r hk.2 hw.2
    have h3 := names_sum hw.1.2.1.1
    have h5 : (altT (k, n, f, x, ns, e)).length ≤ 100000 + sumN (fun x : List UInt8 => x.length + 1) ns + (shE e).length + 5 := by
      show (wordsL (if k = 1 then nTx f x else wordsL n ns) [[45, 62], shE e]).length ≤ _
      rw [words_len]
      simp only [sumN, List.length_cons, List.length_nil]
      by_cases g : k = 1
      · rw [if_pos g]
        have h := (hk.1.2.1 g).1
        have := src_len f x h.1 h.2
        unfold nTx
        omega
      · rw [if_neg g, words_len]
        have h := (hw.1.1 (by have := hk.1.1; omega)).2
        omega
    unfold LB at h1
    show ((altT (k, n, f, x, ns, e)).length + 2) + _ ≤ 200000 * ((1 + ns.length + wxE e) + sumN xA r)
    omega
end
theorem begins_iff {rest : List Tok} (hv : Tvs rest) : begins rest ↔ shapeL rest ∈ atomShapes := by
  unfold begins atomShapes
  rw [kind_shape (by decide) (by decide), kind_shape (by decide) (by decide), kind_shape (by decide) (by decide), kind_shape (by decide) (by decide), sees_sign (by unfold Sm; decide) hv]
  simp only [List.mem_cons, List.not_mem_nil, or_false, sName, sCon, sNum, sBack, sOpen]
  constructor
  · rintro (h | h | h | h | h) <;> simp [h]
  · rintro (h | h | h | h | h) <;> simp [h]
theorem tok_take {ll k last : Int} {rest : List Tok} (h0 : k ≠ 0) (hk : kindL rest = k) (hl : lastOf last rest = ll) (hv : Tvs rest) {β : Type} {f : Tok → Int → List Tok → Out β} {d : β × St}
    (h : ∀ y r, rest = y :: r → tokD ll k ⟨rest, 0, 0⟩ = (y, ⟨r, 0, 0⟩) → lastOf y.2 r = ll → Tvs r → Ag ll (f y y.2 r) d) : Ag ll ((takeO last rest).bind f) d := by
  obtain ⟨y, r, rfl, ht⟩ := tok_ok (ll := ll) h0 hk
  exact h y r rfl ht hl hv.tail
theorem atom_sim {ll : Int} {ex : Par Ex} {dx : Dp Ex} (hx : Sim ll ex dx) {last : Int} {rest : List Tok} (hl : lastOf last rest = ll) (hv : Tvs rest) (hb : begins rest) : Ag ll (atomO ex last rest) (atomD ll dx ⟨rest, 0, 0⟩) := by
  unfold atomO atomD
  have k1 := kName rest
  have k2 := kCon rest
  have k3 := kNum rest
  have k7 := kBack rest
  by_cases g1 : kindL rest = 1
  · rw [if_pos (k1.1 g1), if_pos g1]
    refine tok_take (by decide) g1 hl hv fun y r e ht hl hv => ?_
    rw [ht]
    exact .done rfl hl hv
  rw [if_neg (fun h => g1 (k1.2 h)), if_neg g1]
  by_cases g2 : kindL rest = 2
  · rw [if_pos (k2.1 g2), if_pos g2]
    refine tok_take (by decide) g2 hl hv fun y r e ht hl hv => ?_
    rw [ht]
    exact .done rfl hl hv
  rw [if_neg (fun h => g2 (k2.2 h)), if_neg g2]
  by_cases g3 : kindL rest = 3
  · rw [if_pos (k3.1 g3), if_neg (by rw [g3]; decide), if_pos g3]
    refine tok_take (by decide) g3 hl hv fun y r e ht hl hv => ?_
    rw [ht]
    exact .done rfl hl hv
  rw [if_neg (fun h => g3 (k3.2 h))]
  by_cases g7 : kindL rest = 7
  · rw [if_pos (k7.1 g7), if_pos g7]
    refine tok_take (by decide) g7 hl hv fun y r e ht hl hv => ?_
    rw [ht]
    exact .done rfl hl hv
  rw [if_neg (fun h => g7 (k7.2 h)), if_neg g7, if_neg g3]
  have hs : shapeL rest = sOpen := by
    rcases hb with h | h | h | h | h
    · exact absurd h g1
    · exact absurd h g2
    · exact absurd h g7
    · exact absurd h g3
    · exact (sees_sign (by unfold Sm; decide) hv).1 h
  rw [if_pos hs]
  unfold innerO wantO
  rw [if_pos hs]
  obtain ⟨y, q, rfl⟩ := take_of hs (by decide)
  simp only [takeO, Out.bind]
  rw [show (St.next ⟨y :: q, 0, 0⟩) = ⟨q, 0, 0⟩ from rfl]
  refine (hx y.2 q hl hv.tail).of (fun a l r ho hs hl hv => ?_) (fun he => by rw [need_dead he]; exact ⟨rfl, rfl⟩)
  rw [hs]
  refine (want_ag (sh := sShut) (t := [41]) (by decide) (sees_sign (by unfold Sm; decide) hv) hl hv).of (fun a2 l2 r2 ho hs hl hv => ?_) (fun he => ⟨rfl, rfl⟩)
  rw [hs]
  exact .done rfl hl hv
theorem atoms_sim {ll : Int} {ex : Par Ex} {dx : Dp Ex} (hx : Sim ll ex dx) (hsh : Shrinks ex) : ∀ (nO nD : Nat) (acc pre : List Ex) (last : Int) (rest : List Tok), rest.length < nO → rest.length < nD → lastOf last rest = ll → Tvs rest →
    Ag ll ((atomsO ex nO acc last rest).bind fun xs l r => .ok (pre ++ xs) l r) (atomsD ll dx nD (pre ++ acc) ⟨rest, 0, 0⟩)
  | nO + 1, nD + 1, acc, pre, last, rest, hO, hD, hl, hv => by
    unfold atomsO atomsD
    by_cases g : begins rest
    · rw [if_pos ((begins_iff hv).1 g), if_pos ⟨rfl, g⟩]
      have ha := atom_sim hx hl hv g
      cases ho : atomO ex last rest with
      | bad e ln =>
        rw [ho] at ha
        obtain ⟨h1, h2, h3⟩ := ha
        rw [atoms_dead _ _ (by rw [h2]; exact h1)]
        exact ⟨h1, h2, h3⟩
      | ok a l r =>
        have hst := atom_strict hsh ho
        rw [ho] at ha
        obtain ⟨h1, h2, h3⟩ := ha
        rw [h1]
        simp only [Out.bind]
        rw [List.append_assoc]
        exact atoms_sim hx hsh nO nD (acc ++ [a]) pre l r (by omega) (by omega) h2 h3
    · rw [if_neg (fun h => g ((begins_iff hv).2 h)), if_neg (fun h => g h.2)]
      exact .done rfl hl hv
theorem atom_leaf {ex : Par Ex} {last l : Int} {rest r : List Tok} {a : Ex} (h : atomO ex last rest = .ok a l r) (hs : shapeL rest = sCon ∨ shapeL rest = sBack) : a.withKids [] = a := by
  unfold atomO at h
  rcases hs with hs | hs
  · obtain ⟨y, q, rfl⟩ := take_of hs (by decide)
    rw [hs, if_neg (by decide), if_pos rfl] at h
    cases h
    rfl
  · obtain ⟨y, q, rfl⟩ := take_of hs (by decide)
    rw [hs, if_neg (by decide), if_neg (by decide), if_neg (by decide), if_pos rfl] at h
    cases h
    rfl
theorem row_sim {ll : Int} {ex : Par Ex} {dx : Dp Ex} (hx : Sim ll ex dx) (hsh : Shrinks ex) : Sim ll (rowO ex) (rowD ll dx) := by
  intro last rest hl hv
  unfold rowO rowD
  by_cases g : begins rest
  · have ha := atom_sim hx hl hv g
    have hun : atomsD ll dx (rest.length + 1) [] ⟨rest, 0, 0⟩ = atomsD ll dx rest.length [(atomD ll dx ⟨rest, 0, 0⟩).1] (atomD ll dx ⟨rest, 0, 0⟩).2 := by
      conv => lhs; unfold atomsD
      rw [if_pos ⟨rfl, g⟩]
      rfl
    simp only
    rw [hun]
    cases ho : atomO ex last rest with
    | bad e ln =>
      rw [ho] at ha
      obtain ⟨h1, h2, h3⟩ := ha
      rw [atoms_dead _ _ (by rw [h2]; exact h1)]
      refine ⟨h1, ?_⟩
      simp only [List.cons_ne_nil, if_false]
      exact ⟨h2, h3⟩
    | ok a l r =>
      have hst := atom_strict hsh ho
      have hlf := fun h => atom_leaf ho h
      rw [ho] at ha
      obtain ⟨h1, h2, h3⟩ := ha
      rw [h1]
      have hr := atoms_sim hx hsh (r.length + 1) rest.length [] [a] l r (by omega) hst h2 h3
      simp only [List.append_nil] at hr
      simp only [Out.bind]
      cases hq : atomsO ex (r.length + 1) [] l r with
      | bad e ln =>
        rw [hq] at hr
        obtain ⟨e1, e2, e3⟩ := hr
        have hne : (atomsD ll dx rest.length [a] ⟨r, 0, 0⟩).1 ≠ [] ∨ (atomsD ll dx rest.length [a] ⟨r, 0, 0⟩).2.bad ll 3 = (atomsD ll dx rest.length [a] ⟨r, 0, 0⟩).2 := Or.inr (bad_dead (by rw [e2]; exact e1))
        refine ⟨e1, ?_⟩
        split
        · rcases hne with h | h
          · contradiction
          · rw [h]; exact ⟨e2, e3⟩
        · exact ⟨e2, e3⟩
      | ok xs l2 r2 =>
        rw [hq] at hr
        obtain ⟨e1, e2, e3⟩ := hr
        refine .done ?_ e2 e3
        rw [e1]
        simp only [List.cons_append, List.nil_append, List.cons_ne_nil, if_false]
        congr 1
        have kk : (kindL rest = 2 ∨ kindL rest = 7) ↔ (shapeL rest = sCon ∨ shapeL rest = sBack) := by rw [kind_shape (by decide) (by decide), kind_shape (by decide) (by decide)]; rfl
        cases xs with
        | nil =>
          show a = rowE _ a []
          unfold rowE
          split
          · rename_i h
            exact (hlf (of_decide_eq_true h)).symm
          · rw [if_pos rfl]
        | cons x xs =>
          show (if kindL rest = 2 ∨ kindL rest = 7 then a.withKids (x :: xs) else .mk 4 [] false 0 [] (a :: x :: xs) [] []) = rowE _ a (x :: xs)
          unfold rowE
          by_cases h : kindL rest = 2 ∨ kindL rest = 7
          · rw [if_pos h, if_pos (decide_eq_true (kk.1 h))]
          · rw [if_neg h, if_neg (by simpa using fun h' => h (kk.2 h')), if_neg (by simp)]
  · have hn : shapeL rest ≠ sName ∧ shapeL rest ≠ sCon ∧ shapeL rest ≠ sNum ∧ shapeL rest ≠ sBack ∧ shapeL rest ≠ sOpen := by
      have this : ¬ shapeL rest ∈ atomShapes := fun h => g ((begins_iff hv).2 h)
      simp only [atomShapes, List.mem_cons, List.not_mem_nil, or_false, not_or] at this
      exact this
    have hun : atomsD ll dx (rest.length + 1) [] ⟨rest, 0, 0⟩ = ([], ⟨rest, 0, 0⟩) := by
      conv => lhs; unfold atomsD
      rw [if_neg (fun h => g h.2)]
    simp only
    rw [hun, atomO_none hn]
    have h := refuse_ag (α := Ex) (ll := ll) (er := 3) (by decide) hl
    rw [refuseO_eq] at h
    exact h.ag (by simp)
theorem rows_sim {ll : Int} {ex : Par Ex} {dx : Dp Ex} (hx : Sim ll ex dx) (hsh : Shrinks ex) : Sim ll (rowsO ex) (rowsD ll dx) := by
  intro last rest hl hv
  unfold rowsO rowsD
  refine (row_sim hx hsh last rest hl hv).of (fun a l r ho hs hl hv => ?_) (fun he => by rw [if_neg (fun h => he h.1)]; exact ⟨rfl, rfl⟩)
  rw [hs]
  by_cases g : kindL r = 4
  · rw [if_pos ((kSign _).1 g), if_pos ⟨rfl, g⟩]
    refine tok_take (by decide) g hl hv fun y r2 e ht hl hv => ?_
    rw [ht]
    refine (row_sim hx hsh y.2 r2 hl hv).of (fun b l3 r3 ho hs hl hv => ?_) (fun he => ⟨rfl, rfl⟩)
    rw [hs]
    exact .done rfl hl hv
  · rw [if_neg (fun h => g ((kSign _).2 h)), if_neg (fun h => g h.2)]
    exact .done rfl hl hv
theorem want_at {last : Int} {rest : List Tok} {sh : Sh} (g : shapeL rest = sh) (h0 : sh.1 ≠ 0) {β : Type} {f : Tok → Int → List Tok → Out β} {ll : Int} {d : Dp β} (hl : lastOf last rest = ll) (hv : Tvs rest)
    (h : ∀ y r, lastOf y.2 r = ll → Tvs r → Ag ll (f y y.2 r) (d ⟨r, 0, 0⟩)) : Ag ll ((wantO sh last rest).bind f) (d (St.next ⟨rest, 0, 0⟩)) := by
  obtain ⟨y, r, rfl⟩ := take_of g h0
  unfold wantO
  rw [if_pos g]
  exact h y r hl hv.tail
theorem let_sim {ll : Int} {ex : Par Ex} {dx : Dp Ex} (hx : Sim ll ex dx) (hd : Dead dx) {last : Int} {rest : List Tok} (hl : lastOf last rest = ll) (hv : Tvs rest) (g : shapeL rest = sLet) : Ag ll (letO ex last rest) (letD ll dx (St.next ⟨rest, 0, 0⟩)) := by
  unfold letO
  refine want_at g (by decide) hl hv fun y r hl hv => ?_
  unfold letD
  refine (some_sim (bind_sim hx hd) (bind_dead hd) y.2 r hl hv).of (fun a l r ho hs hl hv => ?_) (fun he => by rw [need_dead he]; exact hd _ he)
  rw [hs]
  refine (want_ag (sh := sIn) (t := [105, 110]) (by decide) (sees_word (by unfold Sm; decide) hv) hl hv).of (fun a2 l2 r2 ho hs hl hv => ?_) (fun he => hd _ he)
  rw [hs]
  refine (hx l2 r2 hl hv).of (fun b l3 r3 ho hs hl hv => ?_) (fun he => ⟨rfl, rfl⟩)
  rw [hs]
  exact .done rfl hl hv
theorem lam_sim {ll : Int} {ex : Par Ex} {dx : Dp Ex} (hx : Sim ll ex dx) (hd : Dead dx) {last : Int} {rest : List Tok} (hl : lastOf last rest = ll) (hv : Tvs rest) (g : shapeL rest = sLam) : Ag ll (lamO ex last rest) (lamD ll dx (St.next ⟨rest, 0, 0⟩)) := by
  unfold lamO
  refine want_at g (by decide) hl hv fun y r hl hv => ?_
  unfold lamD
  by_cases g : kindL r = 1
  · rw [if_pos ((kName _).1 g)]
    obtain ⟨z, r, rfl, -⟩ := tok_ok (ll := ll) (k := 1) (by decide) g
    obtain ⟨e1, e2, e3⟩ := names1_ok (ll := ll) g hl hv.tail
    have hn : namesO y.2 (z :: r) [] = (z.1.t :: (namesO z.2 r []).1, (namesO z.2 r []).2) := by
      conv => lhs; unfold namesO
      rw [if_pos (show shapeT z.1 = sName from (kName (z :: r)).1 g), names_acc]
      rfl
    rw [e1, hn]
    refine (want_ag (sh := sArrow) (t := [45, 62]) (by decide) (sees_sign (by unfold Sm; decide) e3) e2 e3).of (fun a2 l2 r2 ho hs hl hv => ?_) (fun he => hd _ he)
    rw [hs]
    refine (hx l2 r2 hl hv).of (fun b l3 r3 ho hs hl hv => ?_) (fun he => ⟨rfl, rfl⟩)
    rw [hs]
    exact .done rfl hl hv
  · rw [if_neg (fun h => g ((kName _).2 h)), names1_bad g]
    have hb := bad_ne0 (ll := ll) (er := 3) (rest := r) (by decide)
    rw [need_dead hb]
    have h := refuse_ag (α := Ex) (ll := ll) (er := 3) (by decide) hl
    rw [refuseO_eq] at h ⊢
    obtain ⟨h1, h2, h3⟩ := h
    obtain ⟨d1, d2⟩ := hd _ hb
    exact ⟨h1, d1.trans h2, d2.trans h3⟩
theorem alt_sim {ll : Int} {ex : Par Ex} {dx : Dp Ex} (hx : Sim ll ex dx) (hd : Dead dx) : Sim ll (altO ex) (altD ll dx) := by
  intro last rest hl hv
  unfold altO altD
  have k2 := kCon rest
  have k3 := kNum rest
  by_cases g2 : kindL rest = 2
  · rw [if_pos (k2.1 g2), if_pos g2]
    refine tok_take (by decide) g2 hl hv fun y r e ht hl hv => ?_
    obtain ⟨e1, e2, e3⟩ := names0_ok (ll := ll) hl hv
    rw [ht, e1]
    refine (want_ag (sh := sArrow) (t := [45, 62]) (by decide) (sees_sign (by unfold Sm; decide) e3) e2 e3).of (fun a2 l2 r2 ho hs hl hv => ?_) (fun he => hd _ he)
    rw [hs]
    refine (hx l2 r2 hl hv).of (fun b l3 r3 ho hs hl hv => ?_) (fun he => ⟨rfl, rfl⟩)
    rw [hs]
    exact .done rfl hl hv
  rw [if_neg (fun h => g2 (k2.2 h)), if_neg g2]
  by_cases g3 : kindL rest = 3
  · rw [if_pos (k3.1 g3), if_pos g3]
    refine tok_take (by decide) g3 hl hv fun y r e ht hl hv => ?_
    rw [ht]
    refine (want_ag (sh := sArrow) (t := [45, 62]) (by decide) (sees_sign (by unfold Sm; decide) hv) hl hv).of (fun a2 l2 r2 ho hs hl hv => ?_) (fun he => hd _ he)
    rw [hs]
    refine (hx l2 r2 hl hv).of (fun b l3 r3 ho hs hl hv => ?_) (fun he => ⟨rfl, rfl⟩)
    rw [hs]
    exact .done rfl hl hv
  rw [if_neg (fun h => g3 (k3.2 h)), if_neg g3, want_name]
  by_cases g : kindL rest = 1
  · rw [if_pos g]
    refine tok_take (by decide) g hl hv fun y r e ht hl hv => ?_
    rw [ht]
    refine (want_ag (sh := sArrow) (t := [45, 62]) (by decide) (sees_sign (by unfold Sm; decide) hv) hl hv).of (fun a2 l2 r2 ho hs hl hv => ?_) (fun he => hd _ he)
    rw [hs]
    refine (hx l2 r2 hl hv).of (fun b l3 r3 ho hs hl hv => ?_) (fun he => ⟨rfl, rfl⟩)
    rw [hs]
    exact .done rfl hl hv
  · rw [if_neg g]
    have ht : tokD ll 1 ⟨rest, 0, 0⟩ = (tokO [], St.bad ll 3 ⟨rest, 0, 0⟩) := by unfold tokD; rw [if_neg (fun h => g h.2)]
    have hb := bad_ne0 (ll := ll) (er := 3) (rest := rest) (by decide)
    rw [ht, need_dead hb]
    have h := refuse_ag (α := Ex) (ll := ll) (er := 3) (by decide) hl
    rw [refuseO_eq] at h ⊢
    obtain ⟨h1, h2, h3⟩ := h
    obtain ⟨d1, d2⟩ := hd _ hb
    exact ⟨h1, d1.trans h2, d2.trans h3⟩
theorem case_sim {ll : Int} {ex : Par Ex} {dx : Dp Ex} (hx : Sim ll ex dx) (hd : Dead dx) {last : Int} {rest : List Tok} (hl : lastOf last rest = ll) (hv : Tvs rest) (g : shapeL rest = sCase) : Ag ll (caseO ex last rest) (caseD ll dx (St.next ⟨rest, 0, 0⟩)) := by
  unfold caseO
  refine want_at g (by decide) hl hv fun y r hl hv => ?_
  unfold caseD
  have dead : ∀ s : St, s.e ≠ 0 → ∀ x : Ex, (if s.e = 0 ∧ seesL [125] s.r = true then (Ex.mk 7 [] false 0 [] [x] [] [], s.next) else (.mk 7 [] false 0 [] [x] [] (someD (altD ll dx) s).1, needD ll [125] (someD (altD ll dx) s).2)).2.e = s.e ∧ (if s.e = 0 ∧ seesL [125] s.r = true then (Ex.mk 7 [] false 0 [] [x] [] [], s.next) else (.mk 7 [] false 0 [] [x] [] (someD (altD ll dx) s).1, needD ll [125] (someD (altD ll dx) s).2)).2.ln = s.ln := by
    intro s hs x
    rw [if_neg (fun h => hs h.1)]
    obtain ⟨d1, d2⟩ := some_dead (alt_dead hd) s hs
    simp only
    rw [need_dead (by rw [d1]; exact hs)]
    exact ⟨d1, d2⟩
  refine (hx y.2 r hl hv).of (fun a l r ho hs hl hv => ?_) (fun he => ?_)
  rotate_left
  · have ho : ofD ll (dx ⟨r, 0, 0⟩).2 = (dx ⟨r, 0, 0⟩).2 := by unfold ofD; rw [need_dead he, need_dead he]
    rw [ho]
    exact dead _ he _
  rw [hs]
  simp only
  unfold ofD
  refine (want_ag (sh := sOf) (t := [111, 102]) (by decide) (sees_word (by unfold Sm; decide) hv) hl hv).of (fun a2 l2 r2 ho hs hl hv => ?_) (fun he => ?_)
  rotate_left
  · rw [need_dead he]
    exact dead _ he _
  rw [hs]
  refine (want_ag (sh := sCurl) (t := [123]) (by decide) (sees_sign (by unfold Sm; decide) hv) hl hv).of (fun a2 l2 r2 ho hs hl hv => ?_) (fun he => dead _ he _)
  rw [hs]
  have hq : seesL [125] r2 = true ↔ shapeL r2 = sLruc := sees_sign (by unfold Sm; decide) hv
  by_cases g : shapeL r2 = sLruc
  · rw [if_pos g, if_pos ⟨rfl, hq.2 g⟩]
    obtain ⟨z, q, rfl⟩ := take_of g (by decide)
    unfold wantO
    rw [if_pos g]
    exact .done rfl hl hv.tail
  · rw [if_neg g, if_neg (fun h => g (hq.1 h.2))]
    refine (some_sim (alt_sim hx hd) (alt_dead hd) l2 r2 hl hv).of (fun a l r ho hs hl hv => ?_) (fun he => by rw [need_dead he]; exact ⟨rfl, rfl⟩)
    rw [hs]
    refine (want_ag (sh := sLruc) (t := [125]) (by decide) (sees_sign (by unfold Sm; decide) hv) hl hv).of (fun a2 l2 r2 ho hs hl hv => ?_) (fun he => ⟨rfl, rfl⟩)
    rw [hs]
    exact .done rfl hl hv
theorem starts_iff {rest : List Tok} (hv : Tvs rest) : startsL rest ↔ shapeL rest ∈ exprShapes := by
  unfold startsL exprShapes
  rw [kind_shape (by decide) (by decide), kind_shape (by decide) (by decide), kind_shape (by decide) (by decide), kind_shape (by decide) (by decide), sees_sign (c := 40) (by unfold Sm; decide) hv, sees_sign (c := 92) (by unfold Sm; decide) hv, sees_word (c := 108) (by unfold Sm; decide) hv, sees_word (c := 99) (by unfold Sm; decide) hv]
  simp only [List.mem_cons, List.not_mem_nil, or_false, sName, sCon, sNum, sBack, sOpen, sLet, sCase, sLam]
  constructor
  · rintro (h | h | h | h | h | h | h | h) <;> simp [h]
  · rintro (h | h | h | h | h | h | h | h) <;> simp [h]
theorem expr_sim {ll : Int} : ∀ (n k d : Nat), k + d = 200 → 200 < n + d → Sim ll (exprO n d) (exprD ll k)
  | 0, k, d, h1, h2 => by omega
  | n + 1, 0, d, h1, h2 => by
    intro last rest hl hv
    obtain rfl : d = 200 := by omega
    unfold exprO exprD
    rw [if_neg (show ¬ ((⟨rest, 0, 0⟩ : St).e ≠ 0) by simp)]
    by_cases g : startsL rest
    · rw [if_pos ((starts_iff hv).1 g), if_pos rfl, if_pos g, bad_dead (bad_ne0 (by decide))]
      exact refuse_Ag (by decide) hl rfl
    · rw [if_neg (fun h => g ((starts_iff hv).2 h)), if_neg g]
      exact refuse_Ag (by decide) hl rfl
  | n + 1, k + 1, d, h1, h2 => by
    intro last rest hl hv
    have hx : Sim ll (exprO n (d + 1)) (exprD ll k) := expr_sim n k (d + 1) (by omega) (by omega)
    have hd : Dead (exprD ll k) := expr_dead k
    have hsh := expr_shrinks n (d + 1)
    have s1 : seesL [108, 101, 116] rest = true ↔ shapeL rest = sLet := sees_word (by unfold Sm; decide) hv
    have s2 : seesL [99, 97, 115, 101] rest = true ↔ shapeL rest = sCase := sees_word (by unfold Sm; decide) hv
    have s3 : seesL [92] rest = true ↔ shapeL rest = sLam := sees_sign (by unfold Sm; decide) hv
    unfold exprO exprD
    rw [if_neg (show ¬ ((⟨rest, 0, 0⟩ : St).e ≠ 0) by simp)]
    by_cases g : shapeL rest ∈ exprShapes
    · rw [if_pos g, if_neg (by omega)]
      by_cases g1 : shapeL rest = sLet
      · rw [if_pos g1, if_pos (s1.2 g1)]
        exact let_sim hx hd hl hv g1
      rw [if_neg g1, if_neg (fun h => g1 (s1.1 h))]
      by_cases g2 : shapeL rest = sCase
      · rw [if_pos g2, if_pos (s2.2 g2)]
        exact case_sim hx hd hl hv g2
      rw [if_neg g2, if_neg (fun h => g2 (s2.1 h))]
      by_cases g3 : shapeL rest = sLam
      · rw [if_pos g3, if_pos (s3.2 g3)]
        exact lam_sim hx hd hl hv g3
      rw [if_neg g3, if_neg (fun h => g3 (s3.1 h))]
      exact rows_sim hx hsh last rest hl hv
    · have hn := g
      simp only [exprShapes, List.mem_cons, List.not_mem_nil, or_false, not_or] at hn
      rw [if_neg g, if_neg (fun h => hn.1 (s1.1 h)), if_neg (fun h => hn.2.1 (s2.1 h)), if_neg (fun h => hn.2.2.1 (s3.1 h))]
      have hb : ¬ begins rest := fun h => by
        have := (begins_iff hv).1 h
        simp only [atomShapes, List.mem_cons, List.not_mem_nil, or_false] at this
        rcases this with h | h | h | h | h
        · exact hn.2.2.2.1 h
        · exact hn.2.2.2.2.1 h
        · exact hn.2.2.2.2.2.1 h
        · exact hn.2.2.2.2.2.2.1 h
        · exact hn.2.2.2.2.2.2.2 h
      have hun : atomsD ll (exprD ll k) (rest.length + 1) [] ⟨rest, 0, 0⟩ = ([], ⟨rest, 0, 0⟩) := by
        conv => lhs; unfold atomsD
        rw [if_neg (fun h => hb h.2)]
      have hrow : rowD ll (exprD ll k) ⟨rest, 0, 0⟩ = (blankX, St.bad ll 3 ⟨rest, 0, 0⟩) := by
        unfold rowD
        simp only
        rw [hun]
        rfl
      unfold rowsD
      rw [hrow, if_neg (fun h => bad_ne0 (by decide) h.1)]
      exact refuse_Ag (by decide) hl rfl
theorem decls_sim {ll : Int} : ∀ (n : Nat) (acc : List (Nm × Int)), Sim ll (declsO n acc) (declsD ll n acc)
  | 0, acc => fun last rest hl hv => .done rfl hl hv
  | n + 1, acc => fun last rest hl hv => by
    unfold declsO declsD
    by_cases g : kindL rest = 2
    · rw [if_pos ((kCon _).1 g), if_pos ⟨rfl, g⟩]
      refine tok_take (by decide) g hl hv fun y r e ht hl hv => ?_
      rw [ht]
      simp only
      by_cases g3 : kindL r = 3
      · rw [if_pos ((kNum _).1 g3)]
        obtain ⟨u, q, rfl, hu⟩ := tok_ok (ll := ll) (k := 3) (by decide) g3
        simp only [takeO, Out.bind]
        by_cases gr : u.1.f = true ∨ 24 < u.1.x
        · have hdd : declD ll ⟨u :: q, 0, 0⟩ = St.bad ll 1 ⟨u :: q, 0, 0⟩ := by unfold declD; rw [if_pos ⟨g3, gr⟩]
          have hb := bad_ne0 (ll := ll) (er := 1) (rest := u :: q) (by decide)
          rw [if_pos gr, hdd, tok_dead hb]
          have hdz : ∀ acc, declsD ll n acc (St.bad ll 1 ⟨u :: q, 0, 0⟩) = (acc, St.bad ll 1 ⟨u :: q, 0, 0⟩) := fun acc => by
            cases n with
            | zero => rfl
            | succ n => unfold declsD; rw [if_neg (fun h => hb h.1)]
          simp only
          rw [hdz]
          exact refuse_Ag (by decide) hl rfl
        · have hdd : declD ll ⟨u :: q, 0, 0⟩ = ⟨u :: q, 0, 0⟩ := by unfold declD; rw [if_neg (fun h => gr h.2)]
          rw [if_neg gr, hdd, hu]
          exact decls_sim n _ u.2 q hl hv.tail
      · have hdd : declD ll ⟨r, 0, 0⟩ = ⟨r, 0, 0⟩ := by unfold declD; rw [if_neg (fun h => g3 h.1)]
        have ht3 : tokD ll 3 ⟨r, 0, 0⟩ = (tokO [], St.bad ll 3 ⟨r, 0, 0⟩) := by unfold tokD; rw [if_neg (fun h => g3 h.2)]
        have hb := bad_ne0 (ll := ll) (er := 3) (rest := r) (by decide)
        have hdz : ∀ acc, declsD ll n acc (St.bad ll 3 ⟨r, 0, 0⟩) = (acc, St.bad ll 3 ⟨r, 0, 0⟩) := fun acc => by
          cases n with
          | zero => rfl
          | succ n => unfold declsD; rw [if_neg (fun h => hb h.1)]
        rw [if_neg (fun h => g3 ((kNum _).2 h)), hdd, ht3]
        simp only
        rw [hdz]
        exact refuse_Ag (by decide) hl rfl
    · rw [if_neg (fun h => g ((kCon _).2 h)), if_neg (fun h => g h.2)]
      exact .done rfl hl hv
theorem module_dead {ll : Int} (n : Nat) (cs : List (Nm × Int)) (bs : List Bnd) {s : St} (h : s.e ≠ 0) : moduleD ll n cs bs s = ((cs, bs), s) := by
  cases n with
  | zero => rfl
  | succ n => unfold moduleD; rw [if_neg (fun g => h g.1)]
theorem module_sim {ll : Int} : ∀ (n : Nat) (cs : List (Nm × Int)) (bs : List Bnd), Sim ll (moduleO n cs bs) (moduleD ll n cs bs)
  | 0, cs, bs => fun last rest hl hv => .done rfl hl hv
  | n + 1, cs, bs => fun last rest hl hv => by
    unfold moduleO moduleD
    by_cases g0 : rest = []
    · rw [if_pos g0, if_neg (fun h => h.2 g0)]
      exact .done rfl hl hv
    rw [if_neg g0, if_pos (show (⟨rest, 0, 0⟩ : St).e = 0 ∧ (⟨rest, 0, 0⟩ : St).r ≠ [] from ⟨rfl, g0⟩)]
    have s1 : seesL [100, 97, 116, 97] rest = true ↔ shapeL rest = sData := sees_word (by unfold Sm; decide) hv
    by_cases g : shapeL rest = sData
    · rw [if_pos g, if_pos (s1.2 g)]
      obtain ⟨y, r, rfl⟩ := take_of g (by decide)
      simp only [takeO, Out.bind]
      rw [show (St.next ⟨y :: r, 0, 0⟩) = ⟨r, 0, 0⟩ from rfl]
      unfold dataD
      refine (decls_sim (r.length + 1) [] y.2 r hl hv.tail).of (fun a l r2 ho hs hl hv => ?_) (fun he => by simp only [need_dead he, module_dead _ _ _ he, and_self])
      simp only
      rw [hs]
      refine (want_ag (sh := sSemi) (t := [59]) (by decide) (sees_sign (by unfold Sm; decide) hv) hl hv).of (fun a2 l2 r2 ho hs hl hv => ?_) (fun he => by simp only [module_dead _ _ _ he, and_self])
      simp only
      rw [hs]
      exact module_sim n _ _ l2 r2 hl hv
    · rw [if_neg g, if_neg (fun h => g (s1.1 h))]
      refine (bind_sim (expr_sim (rest.length + 201) 200 0 rfl (by omega)) (expr_dead 200) last rest hl hv).of (fun a l r ho hs hl hv => ?_) (fun he => by simp only [need_dead he, module_dead _ _ _ he, and_self])
      rw [hs]
      refine (want_ag (sh := sSemi) (t := [59]) (by decide) (sees_sign (by unfold Sm; decide) hv) hl hv).of (fun a2 l2 r2 ho hs hl hv => ?_) (fun he => by simp only [module_dead _ _ _ he, and_self])
      simp only
      rw [hs]
      exact module_sim n _ _ l2 r2 hl hv
theorem parse_sim {T : List Tok} (hv : Tvs T) : Ag (lastOf 1 T) (parseO T) (moduleD (lastOf 1 T) (T.length + 1) [] [] ⟨T, 0, 0⟩) := module_sim _ _ _ 1 T rfl hv
def mS (s : St) : Nat := if s.e = 0 then s.r.length + 1 else 0
theorem mS_dead {s : St} (h : s.e ≠ 0) : mS s = 0 := if_neg h
theorem mS_alive {s : St} (h : s.e = 0) : mS s = s.r.length + 1 := if_pos h
def Mn {α : Type} (d : Dp α) : Prop := ∀ s, mS (d s).2 ≤ mS s
theorem bad_e {ll er : Int} {s : St} (he : er ≠ 0) : (s.bad ll er).e ≠ 0 := by
  unfold St.bad
  by_cases h : s.e ≠ 0
  · rw [if_pos h]; exact h
  · rw [if_neg h]
    cases s.r with
    | nil => simp
    | cons y r => exact he
theorem bad_mn {ll er : Int} {s : St} (he : er ≠ 0) : mS (s.bad ll er) ≤ mS s := by rw [mS_dead (bad_e he)]; exact Nat.zero_le _
theorem next_mn (s : St) : mS s.next ≤ mS s := by
  unfold mS St.next
  simp only
  split
  · have := List.length_tail (l := s.r); omega
  · exact Nat.le_refl _
theorem next_lt {s : St} (h : s.e = 0) (hr : s.r ≠ []) : mS s.next < mS s := by
  unfold mS St.next
  simp only [h, if_true]
  have := List.length_pos_iff.2 hr
  have := List.length_tail (l := s.r)
  omega
theorem sees_ne {t : Nm} {r : List Tok} (h : seesL t r = true) : r ≠ [] := by rintro rfl; cases h
theorem kind_ne {k : Int} (hk : k ≠ 0) {r : List Tok} (h : kindL r = k) : r ≠ [] := by rintro rfl; exact hk h.symm
theorem need_mn (ll : Int) (t : Nm) (s : St) : mS (needD ll t s) ≤ mS s := by
  unfold needD
  split
  · exact next_mn s
  · exact bad_mn (by decide)
theorem tok_mn (ll k : Int) (s : St) : mS (tokD ll k s).2 ≤ mS s := by
  unfold tokD
  split
  · exact next_mn s
  · exact bad_mn (by decide)
theorem tok_lt {ll k : Int} (hk : k ≠ 0) {s : St} (h : s.e = 0) : mS (tokD ll k s).2 < mS s := by
  unfold tokD
  split
  · rename_i g; exact next_lt h (kind_ne hk g.2)
  · simp only
    rw [mS_dead (bad_e (by decide)), mS_alive h]
    omega
theorem loop_mn (ll : Int) : ∀ (n : Nat) (b : Bool) (acc : List Nm) (s : St), mS (loopN ll n b acc s).2 ≤ mS s
  | 0, _, _, _ => Nat.le_refl _
  | n + 1, b, acc, s => by
    unfold loopN
    split
    · exact Nt (loop_mn ll n _ _ _) (tok_mn _ _ _)
    · exact Nat.le_refl _
theorem names_mn (ll : Int) (b : Bool) (s : St) : mS (namesD ll b s).2 ≤ mS s := loop_mn _ _ _ _ _
theorem names_lt {ll : Int} {s : St} (h : s.e = 0) : mS (namesD ll true s).2 < mS s := by
  unfold namesD loopN
  rw [if_pos ⟨h, Or.inl rfl⟩]
  exact Nat.lt_of_le_of_lt (loop_mn _ _ _ _ _) (tok_lt (by decide) h)
theorem bind_mn {ll : Int} {ex : Dp Ex} (hx : Mn ex) : Mn (bindD ll ex) := fun _ => Nt (hx _) (Nt (need_mn _ _ _) (names_mn _ _ _))
theorem bind_lt {ll : Int} {ex : Dp Ex} (hx : Mn ex) {s : St} (h : s.e = 0) : mS (bindD ll ex s).2 < mS s := Nat.lt_of_le_of_lt (Nt (hx _) (need_mn _ _ _)) (names_lt h)
theorem more_mn {α : Type} {item : Dp α} (hx : Mn item) : ∀ (n : Nat) (acc : List α), Mn (moreD item n acc)
  | 0, _ => fun _ => Nat.le_refl _
  | n + 1, acc => fun s => by
    unfold moreD
    split
    · exact Nt (more_mn hx n _ _) (Nt (hx _) (next_mn _))
    · exact Nat.le_refl _
theorem some_mn {α : Type} {item : Dp α} (hx : Mn item) : Mn (someD item) := fun s => Nt (more_mn hx _ _ _) (hx s)
theorem atom_mn {ll : Int} {ex : Dp Ex} (hx : Mn ex) : Mn (atomD ll ex) := fun s => by
  unfold atomD
  split
  · exact tok_mn _ _ _
  split
  · exact tok_mn _ _ _
  split
  · exact tok_mn _ _ _
  split
  · exact tok_mn _ _ _
  · exact Nt (need_mn _ _ _) (Nt (hx _) (next_mn _))
theorem atom_lt {ll : Int} {ex : Dp Ex} (hx : Mn ex) {s : St} (h : s.e = 0) (hb : begins s.r) : mS (atomD ll ex s).2 < mS s := by
  unfold atomD
  split
  · exact tok_lt (by decide) h
  split
  · exact tok_lt (by decide) h
  split
  · exact tok_lt (by decide) h
  split
  · exact tok_lt (by decide) h
  · rename_i g1 g2 g3 g4
    have hs : seesL [40] s.r = true := by
      rcases hb with h | h | h | h | h
      · exact absurd h g1
      · exact absurd h g2
      · exact absurd h g3
      · exact absurd h g4
      · exact h
    exact Nat.lt_of_le_of_lt (Nt (need_mn _ _ _) (hx _)) (next_lt h (sees_ne hs))
theorem atoms_mn {ll : Int} {ex : Dp Ex} (hx : Mn ex) : ∀ (n : Nat) (acc : List Ex), Mn (atomsD ll ex n acc)
  | 0, _ => fun _ => Nat.le_refl _
  | n + 1, acc => fun s => by
    unfold atomsD
    split
    · exact Nt (atoms_mn hx n _ _) (atom_mn hx _)
    · exact Nat.le_refl _
theorem row_mn {ll : Int} {ex : Dp Ex} (hx : Mn ex) : Mn (rowD ll ex) := fun s => by
  unfold rowD
  simp only
  split
  · exact Nt (bad_mn (by decide)) (atoms_mn hx _ _ _)
  · exact atoms_mn hx _ _ _
theorem alt_mn {ll : Int} {ex : Dp Ex} (hx : Mn ex) : Mn (altD ll ex) := fun s => by
  unfold altD
  split
  · exact Nt (hx _) (Nt (need_mn _ _ _) (Nt (names_mn _ _ _) (tok_mn _ _ _)))
  split
  · exact Nt (hx _) (Nt (need_mn _ _ _) (tok_mn _ _ _))
  · exact Nt (hx _) (Nt (need_mn _ _ _) (tok_mn _ _ _))
theorem let_mn {ll : Int} {ex : Dp Ex} (hx : Mn ex) : Mn (letD ll ex) := fun _ => Nt (hx _) (Nt (need_mn _ _ _) (some_mn (bind_mn hx) _))
theorem of_mn (ll : Int) (s : St) : mS (ofD ll s) ≤ mS s := Nt (need_mn _ _ _) (need_mn _ _ _)
theorem case_mn {ll : Int} {ex : Dp Ex} (hx : Mn ex) : Mn (caseD ll ex) := fun s => by
  unfold caseD
  split
  · exact Nt (next_mn _) (Nt (of_mn _ _) (hx _))
  · exact Nt (need_mn _ _ _) (Nt (some_mn (alt_mn hx) _) (Nt (of_mn _ _) (hx _)))
theorem lam_mn {ll : Int} {ex : Dp Ex} (hx : Mn ex) : Mn (lamD ll ex) := fun _ => Nt (hx _) (Nt (need_mn _ _ _) (names_mn _ _ _))
theorem rows_mn {ll : Int} {ex : Dp Ex} (hx : Mn ex) : Mn (rowsD ll ex) := fun s => by
  unfold rowsD
  split
  · exact Nt (row_mn hx _) (Nt (tok_mn _ _ _) (row_mn hx _))
  · exact row_mn hx _
theorem expr_mn {ll : Int} : ∀ k, Mn (exprD ll k)
  | 0 => fun s => by
    unfold exprD
    split
    · exact Nat.le_refl _
    · refine Nt (bad_mn (by decide)) ?_
      split
      · exact bad_mn (by decide)
      · exact Nat.le_refl _
  | k + 1 => fun s => by
    unfold exprD
    split
    · exact Nat.le_refl _
    split
    · exact Nt (let_mn (expr_mn k) _) (next_mn _)
    split
    · exact Nt (case_mn (expr_mn k) _) (next_mn _)
    split
    · exact Nt (lam_mn (expr_mn k) _) (next_mn _)
    · exact rows_mn (expr_mn k) _
theorem decl_mn (ll : Int) (s : St) : mS (declD ll s) ≤ mS s := by
  unfold declD
  split
  · exact bad_mn (by decide)
  · exact Nat.le_refl _
theorem decl_lt {ll : Int} {s : St} (h : s.e = 0) : mS (tokD ll 3 (declD ll (tokD ll 2 s).2)).2 < mS s := Nat.lt_of_le_of_lt (Nt (tok_mn _ _ _) (decl_mn _ _)) (tok_lt (by decide) h)
theorem declsd_len (ll : Int) : ∀ (n : Nat) (acc : List (Nm × Int)) (s : St), (declsD ll n acc s).1.length + mS (declsD ll n acc s).2 ≤ acc.length + mS s
  | 0, _, _ => Nat.le_refl _
  | n + 1, acc, s => by
    unfold declsD
    split
    · rename_i g
      have h1 := declsd_len ll n (acc ++ [((tokD ll 2 s).1.1.t, (tokD ll 3 (declD ll (tokD ll 2 s).2)).1.1.x)]) (tokD ll 3 (declD ll (tokD ll 2 s).2)).2
      have h2 := decl_lt (ll := ll) g.1
      simp only [List.length_append, List.length_cons, List.length_nil] at h1
      omega
    · exact Nat.le_refl _
structure PAt (w : World) (b : Nat) (T : List Tok) (s : St) : Prop where
  c0 : ∃ v, w.cell? ⟨b, 0, none⟩ = some v ∧ RestIn w b v T
  c1 : ∃ i : Nat, i ≤ T.length ∧ s.r = T.drop i ∧ w.cell? ⟨b, 1, none⟩ = some (.int .i64 i)
  c2 : w.cell? ⟨b, 2, none⟩ = some (.int .i64 s.e)
  c3 : w.cell? ⟨b, 3, none⟩ = some (.int .i64 s.ln)
  z : ∀ j, w.frozen? ⟨b, j, none⟩ = false
  n : T.length ≤ 100000
theorem PAt.lt {w : World} {b : Nat} {T : List Tok} {s : St} (h : PAt w b T s) : b < w.heap.size := Bl h.c2
theorem RestIn.keep {w w' : World} {b : Nat} {v : Value} {rest : List Tok} (h : RestIn w b v rest) (hk : ∀ g, g ≤ b → w'.heap[g]? = w.heap[g]?) : RestIn w' b v rest := by
  obtain ⟨a, c, e, h1, h2, h3⟩ := h
  refine ⟨a, c, e, h1, h2, ?_⟩
  rcases h3 with h3 | ⟨g, o, e2, hg, ht⟩
  · exact Or.inl h3
  · refine Or.inr ⟨g, o, e2, hg, fun j hj => ?_⟩
    obtain ⟨t0, t1, t2, t3, t4⟩ := ht j hj
    have k := hk g (Nat.le_of_lt hg)
    exact ⟨(World.cell?_of_block (a := ⟨g, _, none⟩) k).trans t0, (World.cell?_of_block (a := ⟨g, _, none⟩) k).trans t1, (World.cell?_of_block (a := ⟨g, _, none⟩) k).trans t2, (World.cell?_of_block (a := ⟨g, _, none⟩) k).trans t3, (World.cell?_of_block (a := ⟨g, _, none⟩) k).trans t4⟩
theorem PAt.keep {w w' : World} {b : Nat} {T : List Tok} {s : St} (h : PAt w b T s) (hk : ∀ g, g ≤ b → w'.heap[g]? = w.heap[g]?) : PAt w' b T s := by
  obtain ⟨v, hv, hr⟩ := h.c0
  obtain ⟨i, h1, h2, h3⟩ := h.c1
  have k := hk b Nr
  exact ⟨⟨v, (World.cell?_of_block (a := ⟨b, _, none⟩) k).trans hv, hr.keep hk⟩, ⟨i, h1, h2, (World.cell?_of_block (a := ⟨b, _, none⟩) k).trans h3⟩, (World.cell?_of_block (a := ⟨b, _, none⟩) k).trans h.c2, (World.cell?_of_block (a := ⟨b, _, none⟩) k).trans h.c3, fun j => (World.frozen?_of_block (a := ⟨b, _, none⟩) k).trans (h.z j), h.n⟩
theorem PAt.later {w w' : World} {b : Nat} {T : List Tok} {s : St} (h : PAt w b T s) (hb : Below w.heap.size w w') : PAt w' b T s := h.keep fun g hg => hb.block g (by have := h.lt; omega)
theorem PAt.past {w w' : World} {b q : Nat} {T : List Tok} {s : St} (h : PAt w b T s) (hg : w.grownBy w' (some q)) (hq : b < q) : PAt w' b T s := h.keep fun g hg' => hg.block g (by have := h.lt; omega) (by simp; omega)
theorem PAt.over {w : World} {b p i : Nat} {T : List Tok} {s : St} (h : PAt w b T s) (hp : b < p) (u : Value) : PAt (w.setCell ⟨p, i, none⟩ u) b T s := h.keep fun g hg => Below.heap_setCell _ _ _ _ (by simp only; omega)
theorem PAt.set {w : World} {b i : Nat} {T : List Tok} {s : St} (h : PAt w b T s) (u : Value) (hi : i ≠ 0) : (∃ v, (w.setCell ⟨b, i, none⟩ u).cell? ⟨b, 0, none⟩ = some v ∧ RestIn (w.setCell ⟨b, i, none⟩ u) b v T) ∧ ∀ j, (w.setCell ⟨b, i, none⟩ u).frozen? ⟨b, j, none⟩ = false := by
  obtain ⟨v, hv, hr⟩ := h.c0
  exact ⟨⟨v, (at_oth _ _ _ _ _ hi).trans hv, hr.later (set_grown ..)⟩, fun j => by simp [h.z j]⟩
theorem PAt.next {w : World} {b i : Nat} {T : List Tok} {s : St} (h : PAt w b T s) (hi : w.cell? ⟨b, 1, none⟩ = some (.int .i64 i)) (hr : s.r ≠ []) : PAt (w.setCell ⟨b, 1, none⟩ (.int .i64 ((i : Int) + 1))) b T s.next := by
  obtain ⟨j, h1, h2, h3⟩ := h.c1
  obtain rfl : j = i := by rw [hi] at h3; have := Oi h3; injection this with _ h; omega
  obtain ⟨k0, kz⟩ := h.set (i := 1) (.int .i64 ((j : Int) + 1)) (by decide)
  have hlt : j < T.length := by
    rcases Nat.lt_or_ge j T.length with h | h
    · exact h
    · exact absurd (h2.trans (List.drop_eq_nil_of_le h)) hr
  refine ⟨k0, ⟨j + 1, hlt, ?_, at_sam _ hi⟩, (at_oth _ _ _ _ _ (by decide)).trans h.c2, (at_oth _ _ _ _ _ (by decide)).trans h.c3, kz, h.n⟩
  show s.r.tail = _
  rw [h2, List.tail_drop]
theorem PAt.setE {w : World} {b : Nat} {T : List Tok} {s : St} (h : PAt w b T s) (e : Int) : PAt (w.setCell ⟨b, 2, none⟩ (.int .i64 e)) b T ⟨s.r, e, s.ln⟩ := by
  obtain ⟨i, h1, h2, h3⟩ := h.c1
  obtain ⟨k0, kz⟩ := h.set (i := 2) (.int .i64 e) (by decide)
  exact ⟨k0, ⟨i, h1, h2, (at_oth _ _ _ _ _ (by decide)).trans h3⟩, at_sam _ h.c2, (at_oth _ _ _ _ _ (by decide)).trans h.c3, kz, h.n⟩
theorem PAt.setL {w : World} {b : Nat} {T : List Tok} {s : St} (h : PAt w b T s) (ln : Int) : PAt (w.setCell ⟨b, 3, none⟩ (.int .i64 ln)) b T ⟨s.r, s.e, ln⟩ := by
  obtain ⟨i, h1, h2, h3⟩ := h.c1
  obtain ⟨k0, kz⟩ := h.set (i := 3) (.int .i64 ln) (by decide)
  exact ⟨k0, ⟨i, h1, h2, (at_oth _ _ _ _ _ (by decide)).trans h3⟩, (at_oth _ _ _ _ _ (by decide)).trans h.c2, at_sam _ h.c3, kz, h.n⟩
theorem PAt.view {w : World} {b : Nat} {T : List Tok} {s : St} (h : PAt w b T s) : ∃ i a c, w.cell? ⟨b, 0, none⟩ = some (.slice a T.length c) ∧ T.length ≤ c ∧ c ≤ maxLen ∧ w.cell? ⟨b, 1, none⟩ = some (.int .i64 ((i : Nat) : Int)) ∧ i ≤ T.length ∧ s.r = T.drop i ∧ w.cell? ⟨b, 2, none⟩ = some (.int .i64 s.e) ∧ w.cell? ⟨b, 3, none⟩ = some (.int .i64 s.ln) ∧ (T = [] ∨ ∃ g o, a = some ⟨g, o, none⟩ ∧ g < b ∧ ∀ i (h : i < T.length), TokIn w g (o + i * 5) T[i]) := by
  obtain ⟨v, hv, a, c, rfl, hc, hm, ht⟩ := h.c0
  obtain ⟨i, h1, h2, h3⟩ := h.c1
  exact ⟨i, a, c, hv, hc, hm, h3, h1, h2, h.c2, h.c3, ht⟩
def stM (n b : Nat) (w : World) : Nat :=
  match w.cell? ⟨b, 2, none⟩ with
  | some (.int _ 0) => n + 1 - (RowKit.intOf ((w.cell? ⟨b, 1, none⟩).getD .nilFunc)).toNat
  | _ => 0
theorem PAt.m {w : World} {b : Nat} {T : List Tok} {s : St} (h : PAt w b T s) : stM T.length b w = mS s := by
  obtain ⟨i, h1, h2, h3⟩ := h.c1
  unfold stM mS
  rw [h.c2, h3]
  by_cases g : s.e = 0
  · rw [g, if_pos rfl, h2, List.length_drop]
    simp only [Option.getD_some, RowKit.intOf]
    omega
  · rw [if_neg g]
    split
    · rename_i k heq
      injection heq with heq
      injection heq with _ heq
      exact absurd heq g
    · rfl
theorem dbelow {B : Nat} {w W : World} (h : Below B w W) (n : Nat) : Below B w (W.drewN n) := ⟨h.os, h.tape, h.output, h.size, h.block⟩
def DSaid {α : Type} (b : Nat) (T : List Tok) (V : α → Ending → World → Prop) (o : α × St) (w : World) (e : Ending) (w' : World) : Prop :=
  V o.1 e w' ∧ PAt w' b T o.2 ∧ w.grownBy w' (some b)
theorem last_get {T : List Tok} (h : T ≠ []) (l : Int) : ∃ y, T[T.length - 1]? = some y ∧ lastOf l T = y.2 := by
  induction T generalizing l with
  | nil => exact absurd rfl h
  | cons y r ih =>
    cases r with
    | nil => exact ⟨y, rfl, rfl⟩
    | cons z r =>
      obtain ⟨u, h1, h2⟩ := ih (by simp) y.2
      exact ⟨u, by simpa using h1, h2⟩
def stN (st : Fo) : Int × Nm := st.getD (0, [])
structure SAt (w : World) (b : Nat) (st : Fo) (vc : Value) : Prop where
  box : BoxW w b [.int .i64 (stN st).1, .string (tx (stN st).2), vc]
  ok : ∀ x, st = some x → x.1 ≠ 0
theorem SAt.later {w w' : World} {b : Nat} {st : Fo} {vc : Value} (h : SAt w b st vc) (hb : Below w.heap.size w w') : SAt w' b st vc := ⟨h.box.below hb, h.ok⟩
theorem RowAt.past {w w' : World} {K : Nat → Prop} {e : TypeId} {size n b : Nat} {v : Value} {xs : List Value} (h : RowAt w K e size v n xs) (hg : w.grownBy w' (some b)) (hK : ∀ g, K g → g ≠ b) : RowAt w' K e size v n xs :=
  h.move fun g hk lt => ⟨hk, hg.block g lt (fun e => hK g hk (Oi e))⟩
def NSet (w : World) (b n : Nat) (dom : List Nm) : Prop :=
  ∃ D : DataW Unit, w.ownsMap Tryz.prog 9 (plainElem Tryz.prog 4) b n D ∧ ∀ x, D.atKey (.string x) (.lit (.bool false)) = .lit (.bool (decide (x ∈ dom)))
theorem NSet.same {w w' : World} {b n : Nat} {dom : List Nm} (h : NSet w b n dom) (hk : w'.heap[b]? = w.heap[b]?) : NSet w' b n dom := by
  obtain ⟨D, ⟨es, c, hb, r⟩, h2⟩ := h
  exact ⟨D, ⟨es, c, hk.trans hb, r⟩, h2⟩
theorem NSet.lt {w : World} {b n : Nat} {dom : List Nm} (h : NSet w b n dom) : b < w.heap.size := by
  obtain ⟨D, h1, h2⟩ := h
  exact h1.lt
theorem NSet.later {w w' : World} {b n : Nat} {dom : List Nm} (h : NSet w b n dom) (hb : Below w.heap.size w w') : NSet w' b n dom := h.same (hb.block b h.lt)
theorem NSet.eq {w : World} {b n : Nat} {dom dom' : List Nm} (h : NSet w b n dom) (he : SetEq dom dom') : NSet w b n dom' := by
  obtain ⟨D, h1, h2⟩ := h
  exact ⟨D, h1, fun x => by rw [h2]; simp only [he x]⟩
theorem NSet.ne {w : World} {b n k i : Nat} {dom : List Nm} {v : Value} (h : NSet w b n dom) (hc : w.cell? ⟨k, i, none⟩ = some v) : b ≠ k := by
  obtain ⟨D, ⟨es, c, hb, r⟩, h2⟩ := h
  intro e
  subst e
  simp [World.cell?, hb] at hc
def firstF {α : Type} (F : α → Fo) : List α → Fo
  | [] => none
  | x :: r => (F x).or (firstF F r)
def scA (cs sc : List Nm) (a : Alt) : Fo := if a.1 = 0 then (hasF cs a.2.1).or ((twF a.2.2.2.2.1).or (scE cs (sc ++ a.2.2.2.2.1) a.2.2.2.2.2)) else if a.1 = 2 then scE cs (sc ++ [a.2.1]) a.2.2.2.2.2 else scE cs sc a.2.2.2.2.2
theorem nms_len {l : List Nm} (h : Nms l) : ∀ x, x ∈ l → x.length ≤ 100000 := fun x hx => (h x hx).2
theorem wfEs_mem : ∀ {l : List Ex}, wfEs l → ∀ b, b ∈ l → wfE b
  | e :: r, h, b, hb => by
    unfold wfEs at h
    rcases List.mem_cons.1 hb with rfl | hb
    · exact h.1
    · exact wfEs_mem h.2 b hb
theorem wfBs_mem : ∀ {l : List Bnd}, wfBs l → ∀ b, b ∈ l → wB b
  | (n, ps, e) :: r, h, b, hb => by
    unfold wfBs at h
    rcases List.mem_cons.1 hb with rfl | hb
    · exact h.1
    · exact wfBs_mem h.2 b hb
theorem wfAs_mem : ∀ {l : List Alt}, wfAs l → ∀ b, b ∈ l → wA b
  | (k, n, f, x, ns, e) :: r, h, b, hb => by
    unfold wfAs at h
    rcases List.mem_cons.1 hb with rfl | hb
    · exact h.1
    · exact wfAs_mem h.2 b hb
theorem ExAt.opened {W : World} {K : Nat → Prop} {x : Ex} {k : Int} {nm : Nm} {f : Bool} {u : Int} {ap : Option Addr} {np cp : Nat} {ak : Option Addr} {nk ck : Nat} {ab : Option Addr} {nb cb : Nat} {aa : Option Addr} {na ca : Nat} (h : ExAt W K x [.int .i64 k, .string (tx nm), .bool f, .int .u64 u, .slice ap np cp, .slice ak nk ck, .slice ab nb cb, .slice aa na ca]) : ∃ ps ks bl al xk xb xa, x = .mk k nm f u ps ks bl al ∧ np = ps.length ∧ nk = ks.length ∧ nb = bl.length ∧ na = al.length ∧
    RowAt W K 9 1 (.slice ap ps.length cp) ps.length (namesV ps) ∧ RowAt W K 37 8 (.slice ak ks.length ck) ks.length xk ∧ RowAt W K 39 10 (.slice ab bl.length cb) bl.length xb ∧ RowAt W K 56 13 (.slice aa al.length ca) al.length xa ∧ ExsAt W K ks xk ∧ BndsAt W K bl xb ∧ AltsAt W K al xa := by
  generalize hL : [Value.int .i64 k, .string (tx nm), .bool f, .int .u64 u, .slice ap np cp, .slice ak nk ck, .slice ab nb cb, .slice aa na ca] = L at h
  cases h with
  | mk k' n' f' x' ps ks bl al vp vk vb va xk xb xa hp hk hb ha tk tb ta =>
    obtain ⟨ap', cp', rfl⟩ := hp.sl
    obtain ⟨ak', ck', rfl⟩ := hk.sl
    obtain ⟨ab', cb', rfl⟩ := hb.sl
    obtain ⟨aa', ca', rfl⟩ := ha.sl
    simp only [List.cons.injEq, Value.int.injEq, Value.string.injEq, Value.bool.injEq, Value.slice.injEq, and_true, true_and] at hL
    obtain ⟨rfl, h2, rfl, rfl, ⟨rfl, rfl, rfl⟩, ⟨rfl, rfl, rfl⟩, ⟨rfl, rfl, rfl⟩, ⟨rfl, rfl, rfl⟩⟩ := hL
    obtain rfl := tx_inj h2
    exact ⟨ps, ks, bl, al, xk, xb, xa, rfl, rfl, rfl, rfl, rfl, hp, hk, hb, ha, tk, tb, ta⟩
structure NodeOk (n ns : Nat) (k : Int) (nm : Nm) (f : Bool) (u : Int) (ps : List Nm) (ks : List Ex) (bl : List Bnd) (al : List Alt) : Prop where
  sk : ∀ y, y ∈ ks → SizeOf.sizeOf y ≤ n
  sb : ∀ y, y ∈ bl → SizeOf.sizeOf y.2.2 ≤ n
  sa : ∀ y, y ∈ al → SizeOf.sizeOf y.2.2.2.2.2 ≤ n
  wk : ∀ y, y ∈ ks → wfE y
  wb : ∀ y, y ∈ bl → wB y
  wa : ∀ y, y ∈ al → wA y
  wp : Nms ps
  wn : k = 1 ∨ k = 2 ∨ k = 5 → NmOk nm
  wt : ns + ((if k = 1 then 1 else 0) + ps.length + sumN wtE ks + (bl.length + sumN nB bl) + sumN nA al) ≤ 100000
theorem NodeOk.of {n ns : Nat} {k : Int} {nm : Nm} {f : Bool} {u : Int} {ps : List Nm} {ks : List Ex} {bl : List Bnd} {al : List Alt} (hs : SizeOf.sizeOf (Ex.mk k nm f u ps ks bl al) ≤ n + 1) (hw : wfE (.mk k nm f u ps ks bl al)) (ht : ns + wtE (.mk k nm f u ps ks bl al) ≤ 100000) : NodeOk n ns k nm f u ps ks bl al := by
  unfold wfE at hw
  obtain ⟨-, -, w3, w4, w5, w6, w7, -, -⟩ := hw
  rw [wtE_mk, sumN_nB2] at ht
  simp only [Ex.mk.sizeOf_spec] at hs
  refine ⟨fun x hx => ?_, fun x hx => ?_, fun x hx => ?_, wfEs_mem w5, wfBs_mem w6, wfAs_mem w7, w4, w3, ht⟩
  · have := List.sizeOf_lt_of_mem hx
    omega
  · have := List.sizeOf_lt_of_mem hx
    obtain ⟨a, b, c⟩ := x
    simp only [Prod.mk.sizeOf_spec] at this ⊢
    omega
  · have := List.sizeOf_lt_of_mem hx
    obtain ⟨a, b, c, d, e, g⟩ := x
    simp only [Prod.mk.sizeOf_spec] at this ⊢
    omega
theorem func_made : ∀ (fn : Fn) (first cap : Array Value) (w : World), (Instr.makeFunc fn first cap).run Tryz.prog w = .ok (.func fn first cap) w := fun _ _ _ _ => rfl
end Go.Proofs.YthehgcmhcioffaaGreatDoor
