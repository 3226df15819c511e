/- What a call of the stack tells and leaves, as one function; the law's do and the document's Do come to it. -/
import Derived.Test.YtalfhcmccdnajaaSlB
import Derived.Test.YtalfhcmccdnajaaSlF
import Derived.Test.YtalfhcmccdnajaaSlG
namespace Go.Proofs.Ytalfhcmccdnajaa
open Go.RowKit Go.Sort

abbrev TFr := Int × Int × List Int
/-- What is told. -/
structure Ans where
  t : TFr
  fr : Bool
  ok : Bool
  er : Int
def usedT (T : List TFr) : Int := (T.map fun t => (t.2.2.length : Int) + 2).sum
theorem used_map (L : List Fr) : usedT (L.map Fr.told) = used L := by
  induction L with
  | nil => rfl
  | cons x r ih =>
    simp only [usedT, List.map_cons, List.sum_cons, Fr.told, used] at ih ⊢
    rw [← ih]
/-- A call: what it tells, what is there behind it, how many are to be scanned. -/
def tstep (X : Int) (f : TFr) (room : Int) (T : List TFr) (left : Nat) : Ans × List TFr × Nat :=
  if X = 0 then if usedT T + (f.2.2.length : Int) + 2 ≤ room then (⟨(0, 0, []), false, false, 0⟩, T ++ [f], left) else (⟨(0, 0, []), false, false, 13⟩, T, left)
  else if X = 1 then match T.getLast? with
    | none => (⟨(0, 0, []), false, false, 0⟩, [], left)
    | some x => (⟨x, decide (T.length - 1 < left), true, 0⟩, T.dropLast, min left (T.length - 1))
  else if X = 2 then match T.getLast? with
    | none => (⟨(0, 0, []), false, false, 0⟩, [], left)
    | some x => (⟨x, false, true, 0⟩, T, left)
  else if X = 3 then (⟨(0, 0, []), false, false, 0⟩, T, T.length)
  else match left with
    | 0 => (⟨(0, 0, []), false, false, 0⟩, T, 0)
    | j + 1 => (⟨(T[j]?).getD (0, 0, []), false, true, 0⟩, T, j)
/-- A frame of no words lies anywhere. -/
theorem wat_nil (K : Nat → Prop) (W : World) (k n : Int) (a : Option Addr) (c : Nat) : WAt K W ⟨k, n, [], a, c⟩ := ⟨Nat.zero_le _, fun h => absurd h (Nat.lt_irrefl _)⟩

/-- What the law's do tells. -/
def DoSaid (p : Nat) (room : Int) (v : Value) (X : Int) (f : TFr) (L : List Fr) (left : Nat) (w : World) (e : Ending) (w' : World) : Prop :=
  ∃ A L' left' a1 c1, tstep X f room (L.map Fr.told) left = (A, L'.map Fr.told, left') ∧ e = .returned (.agg #[.int .i64 A.t.1, .int .i64 A.t.2.1, .slice a1 A.t.2.2.length c1, .bool A.fr, .bool A.ok, .int .i64 A.er]) ∧ WAt (fun g => w.heap.size ≤ g) w' ⟨A.t.1, A.t.2.1, A.t.2.2, a1, c1⟩ ∧ Did p room v w L' left' w' ∧ ∀ x, x ∈ L' → x ∈ L ∨ WAt (fun g => w.heap.size ≤ g) w' x
theorem wat_new {w W : World} {g5 : Nat} {f : Fr} (h : WAt (fun x => x = g5) W f) (hg : w.heap.size ≤ g5) : WAt (fun g => w.heap.size ≤ g) W f :=
  h.move (fun _ _ hk => ⟨hk ▸ hg, rfl⟩) (Nat.le_refl _)
theorem get_told {L : List Fr} {j : Nat} {f : Fr} (h : L[j]? = some f) : ((L.map Fr.told)[j]?).getD (0, 0, []) = f.told := by simp [h]

theorem do_all (p left : Nat) (room : Int) (v : Value) (L : List Fr) (X : Int) (f : Fr) (w : World) (h : St w p room v L left) {K : Nat → Prop} (hw : WAt K w f) (hm : f.ws.length ≤ 5000) :
    Calls Try.prog 11 #[.pointer (some ⟨p, 0, none⟩), .agg #[.int .i64 X, .int .i64 f.k, .int .i64 f.n, .slice f.a f.ws.length f.c]] w (DoSaid p room v X f.told L left w) := by
  obtain ⟨fk, fn, fws, fa, fc⟩ := f
  simp only at hm ⊢
  by_cases x0 : X = 0
  · subst x0
    by_cases hfit : used L + (fws.length : Int) + 2 ≤ room
    · refine (do_push_in p left room v L fk fn fa fc fws w h hw (by omega)).mono ?_
      rintro e w' ⟨f', rfl, ht, hd, hw'⟩
      refine ⟨⟨(0, 0, []), false, false, 0⟩, L ++ [f'], left, none, 0, ?_, rfl, wat_nil _ _ _ _ _ _, hd, fun x hx => ?_⟩
      · unfold tstep
        rw [if_pos rfl, used_map, if_pos (by simpa [Fr.told] using hfit), List.map_append, List.map_singleton, ht]
        rfl
      · rcases List.mem_append.1 hx with hx | hx
        · exact Or.inl hx
        · simp only [List.mem_singleton] at hx; subst hx; exact Or.inr hw'
    · refine (do_push_out p left room v L fk fn fa fc fws w h (by omega) (by omega)).mono ?_
      rintro e w' ⟨rfl, hd⟩
      refine ⟨⟨(0, 0, []), false, false, 13⟩, L, left, none, 0, ?_, rfl, wat_nil _ _ _ _ _ _, hd, fun x hx => Or.inl hx⟩
      unfold tstep
      rw [if_pos rfl, used_map, if_neg (by simpa [Fr.told] using hfit)]
  by_cases x1 : X = 1
  · subst x1
    rcases List.eq_nil_or_concat L with rfl | ⟨M, f, rfl⟩
    · refine (do_pop_none p left room v fk fn fa fc fws w h).mono ?_
      rintro e w' ⟨rfl, hd⟩
      exact ⟨⟨(0, 0, []), false, false, 0⟩, [], left, none, 0, rfl, rfl, wat_nil _ _ _ _ _ _, hd, fun x hx => Or.inl hx⟩
    · rw [List.concat_eq_append] at h ⊢
      refine (do_pop_some2 p left room v M f fk fn fa fc fws w h).mono ?_
      rintro e w' ⟨g5, rfl, hg, hn, hd⟩
      refine ⟨⟨f.told, decide (M.length < left), true, 0⟩, M, min left M.length, some ⟨g5, 0, none⟩, f.ws.length, ?_, rfl, wat_new hg hn, hd, fun x hx => Or.inl (List.mem_append.2 (Or.inl hx))⟩
      unfold tstep
      rw [if_neg (by decide), if_pos rfl, List.map_append, List.map_singleton, List.getLast?_append]
      simp
  by_cases x2 : X = 2
  · subst x2
    rcases List.eq_nil_or_concat L with rfl | ⟨M, f, rfl⟩
    · refine (do_top_none p left room v fk fn fa fc fws w h).mono ?_
      rintro e w' ⟨rfl, hd⟩
      exact ⟨⟨(0, 0, []), false, false, 0⟩, [], left, none, 0, rfl, rfl, wat_nil _ _ _ _ _ _, hd, fun x hx => Or.inl hx⟩
    · rw [List.concat_eq_append] at h ⊢
      refine (do_top_some2 p left room v (M ++ [f]) f M.length fk fn fa fc fws w h (by simp) (by simp)).mono ?_
      rintro e w' ⟨g5, rfl, hg, hn, hd⟩
      refine ⟨⟨f.told, false, true, 0⟩, M ++ [f], left, some ⟨g5, 0, none⟩, f.ws.length, ?_, rfl, wat_new hg hn, hd, fun x hx => Or.inl hx⟩
      unfold tstep
      rw [if_neg (by decide), if_neg (by decide), if_pos rfl, List.map_append, List.map_singleton, List.getLast?_append]
      simp
  by_cases x3 : X = 3
  · subst x3
    refine (do_begin p left room v L fk fn fa fc fws w h).mono ?_
    rintro e w' ⟨rfl, hd⟩
    refine ⟨⟨(0, 0, []), false, false, 0⟩, L, L.length, none, 0, ?_, rfl, wat_nil _ _ _ _ _ _, hd, fun x hx => Or.inl hx⟩
    unfold tstep
    rw [if_neg (by decide), if_neg (by decide), if_neg (by decide), if_pos rfl, List.length_map]
  cases left with
  | zero =>
    refine (do_scan_none p room v L X fk fn fa fc fws w h x0 x1 x2 x3).mono ?_
    rintro e w' ⟨rfl, hd⟩
    refine ⟨⟨(0, 0, []), false, false, 0⟩, L, 0, none, 0, ?_, rfl, wat_nil _ _ _ _ _ _, hd, fun x hx => Or.inl hx⟩
    unfold tstep
    rw [if_neg x0, if_neg x1, if_neg x2, if_neg x3]
  | succ j =>
    obtain ⟨f, hf⟩ : ∃ f, L[j]? = some f := ⟨_, List.getElem?_eq_getElem (by have := h.le; omega)⟩
    refine (do_scan_some2 p room v L f j X fk fn fa fc fws w h x0 x1 x2 x3 hf).mono ?_
    rintro e w' ⟨g5, rfl, hg, hn, hd⟩
    refine ⟨⟨f.told, false, true, 0⟩, L, j, some ⟨g5, 0, none⟩, f.ws.length, ?_, rfl, wat_new hg hn, hd, fun x hx => Or.inl hx⟩
    unfold tstep
    rw [if_neg x0, if_neg x1, if_neg x2, if_neg x3]
    show ((⟨((L.map Fr.told)[j]?).getD (0, 0, []), false, true, 0⟩ : Ans), L.map Fr.told, j) = _
    rw [get_told hf]

/-- What the document's Do tells. -/
def RDoSaid (q : Nat) (room : Int) (vL vT : Value) (X : Int) (f : Fr) (R : List Fr) (left : Nat) (w : World) (e : Ending) (w' : World) : Prop :=
  ∃ A R' left' a1 c1, tstep X f.told room (R.map Fr.told) left = (A, R'.map Fr.told, left') ∧ e = .returned (.agg #[.int .i64 A.t.1, .int .i64 A.t.2.1, .slice a1 A.t.2.2.length c1, .bool A.fr, .bool A.ok, .int .i64 A.er]) ∧ (A.t.2.2 = [] ∨ (⟨A.t.1, A.t.2.1, A.t.2.2, a1, c1⟩ : Fr) ∈ R) ∧ RDid q room vL vT w R' left' w' ∧ ∀ x, x ∈ R' → x ∈ R ∨ x = f

theorem rdo_all (q left : Nat) (vL vT : Value) (room : Int) (R : List Fr) (X : Int) (f : Fr) (w : World) (h : Rf w q vL vT room R left) (hu : used R ≤ 4096) (hm : f.ws.length ≤ 5000) (hle : left ≤ R.length) :
    Calls Try.prog 12 #[.pointer (some ⟨q, 0, none⟩), .agg #[.int .i64 X, .int .i64 f.k, .int .i64 f.n, .slice f.a f.ws.length f.c]] w (RDoSaid q room vL vT X f R left w) := by
  obtain ⟨fk, fn, fws, fa, fc⟩ := f
  have hlen := used_len R
  simp only at hm ⊢
  by_cases x0 : X = 0
  · subst x0
    by_cases hfit : used R + (fws.length : Int) + 2 ≤ room
    · refine (rdo_push_in q left vL vT room fk fn fa fc fws R w h hu (by omega) hle hfit).mono ?_
      rintro e w' ⟨rfl, hd⟩
      refine ⟨⟨(0, 0, []), false, false, 0⟩, R ++ [⟨fk, fn, fws, fa, fc⟩], left, none, 0, ?_, rfl, Or.inl rfl, hd, fun x hx => ?_⟩
      · unfold tstep
        rw [if_pos rfl, used_map, if_pos (by simpa [Fr.told] using hfit), List.map_append, List.map_singleton]
      · rcases List.mem_append.1 hx with hx | hx
        · exact Or.inl hx
        · exact Or.inr (List.mem_singleton.1 hx)
    · refine (rdo_push_out q left vL vT room fk fn fa fws.length fc R w h hu (by omega) (by omega)).mono ?_
      rintro e w' ⟨rfl, hd⟩
      refine ⟨⟨(0, 0, []), false, false, 13⟩, R, left, none, 0, ?_, rfl, Or.inl rfl, hd, fun x hx => Or.inl hx⟩
      unfold tstep
      rw [if_pos rfl, used_map, if_neg (by simpa [Fr.told] using hfit)]
  by_cases x1 : X = 1
  · subst x1
    rcases List.eq_nil_or_concat R with rfl | ⟨M, f, rfl⟩
    · refine (rdo_pop_none q left vL vT room fk fn fa fws.length fc w h).mono ?_
      rintro e w' ⟨rfl, hd⟩
      exact ⟨⟨(0, 0, []), false, false, 0⟩, [], left, none, 0, rfl, rfl, Or.inl rfl, hd, fun x hx => Or.inl hx⟩
    · rw [List.concat_eq_append] at h hlen ⊢
      refine (rdo_pop_some q left vL vT room fk fn fa fws.length fc M f w h (by rw [List.length_append] at hlen; rw [List.concat_eq_append] at hu; simp only [List.length_singleton] at hlen; omega)).mono ?_
      rintro e w' ⟨rfl, hd⟩
      refine ⟨⟨f.told, decide (M.length < left), true, 0⟩, M, min left M.length, f.a, f.c, ?_, rfl, Or.inr (List.mem_append.2 (Or.inr (List.mem_singleton.2 rfl))), hd, fun x hx => Or.inl (List.mem_append.2 (Or.inl hx))⟩
      unfold tstep
      rw [if_neg (by decide), if_pos rfl, List.map_append, List.map_singleton, List.getLast?_append]
      simp
  by_cases x2 : X = 2
  · subst x2
    rcases List.eq_nil_or_concat R with rfl | ⟨M, f, rfl⟩
    · refine (rdo_top_none q left vL vT room fk fn fa fws.length fc w h).mono ?_
      rintro e w' ⟨rfl, hd⟩
      exact ⟨⟨(0, 0, []), false, false, 0⟩, [], left, none, 0, rfl, rfl, Or.inl rfl, hd, fun x hx => Or.inl hx⟩
    · rw [List.concat_eq_append] at h hlen hu ⊢
      refine (rdo_top_some q left vL vT room fk fn fa fws.length fc (M ++ [f]) f M.length w h (by omega) (by simp) (by simp)).mono ?_
      rintro e w' ⟨rfl, hd⟩
      refine ⟨⟨f.told, false, true, 0⟩, M ++ [f], left, f.a, f.c, ?_, rfl, Or.inr (List.mem_append.2 (Or.inr (List.mem_singleton.2 rfl))), hd, fun x hx => Or.inl hx⟩
      unfold tstep
      rw [if_neg (by decide), if_neg (by decide), if_pos rfl, List.map_append, List.map_singleton, List.getLast?_append]
      simp
  by_cases x3 : X = 3
  · subst x3
    refine (rdo_begin q left vL vT room fk fn fa fws.length fc R w h (by omega) hle).mono ?_
    rintro e w' ⟨rfl, hd⟩
    refine ⟨⟨(0, 0, []), false, false, 0⟩, R, R.length, none, 0, ?_, rfl, Or.inl rfl, hd, fun x hx => Or.inl hx⟩
    unfold tstep
    rw [if_neg (by decide), if_neg (by decide), if_neg (by decide), if_pos rfl, List.length_map]
  cases left with
  | zero =>
    refine (rdo_scan_none q vL vT room R X fk fn fa fws.length fc w h (by omega) x0 x1 x2 x3).mono ?_
    rintro e w' ⟨rfl, hd⟩
    refine ⟨⟨(0, 0, []), false, false, 0⟩, R, 0, none, 0, ?_, rfl, Or.inl rfl, hd, fun x hx => Or.inl hx⟩
    unfold tstep
    rw [if_neg x0, if_neg x1, if_neg x2, if_neg x3]
  | succ j =>
    obtain ⟨f, hf⟩ : ∃ f, R[j]? = some f := ⟨_, List.getElem?_eq_getElem (by omega)⟩
    refine (rdo_scan_some q vL vT room R f j X fk fn fa fws.length fc w h (by omega) x0 x1 x2 x3 hf).mono ?_
    rintro e w' ⟨rfl, hd⟩
    refine ⟨⟨f.told, false, true, 0⟩, R, j, f.a, f.c, ?_, rfl, Or.inr (List.mem_of_getElem? hf), hd, fun x hx => Or.inl hx⟩
    unfold tstep
    rw [if_neg x0, if_neg x1, if_neg x2, if_neg x3]
    show ((⟨((R.map Fr.told)[j]?).getD (0, 0, []), false, true, 0⟩ : Ans), R.map Fr.told, j) = _
    rw [get_told hf]

end Go.Proofs.Ytalfhcmccdnajaa
