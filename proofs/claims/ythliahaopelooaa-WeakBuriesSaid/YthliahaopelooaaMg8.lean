import Derived.Test.YthliahaopelooaaMg7
/- Rows that are linked by words: pure. -/
namespace Go.Proofs.Ythliahaopelooaa
open Go.RowKit
/-- Each one's fourth word leads to the next one. -/
def Ch (V : Int → Int → Int) : List Int → Prop
  | [] => True
  | p :: l => V p 3 = l.headD 0 ∧ Ch V l
/-- Of each one the one ahead of it is told. -/
def Bk (f : Int → Int) (a : Int) : List Int → Prop
  | [] => True
  | p :: l => f p = a ∧ Bk f p l
theorem Ch.other {V V' : Int → Int → Int} {l : List Int} (h : Ch V l) (hv : ∀ p, p ∈ l → V' p 3 = V p 3) : Ch V' l := by
  induction l with
  | nil => trivial
  | cons p l ih => exact ⟨(hv p (List.mem_cons_self ..)).trans h.1, ih h.2 fun q hq => hv q (List.mem_cons_of_mem _ hq)⟩
theorem Bk.other {f f' : Int → Int} {a : Int} {l : List Int} (h : Bk f a l) (hv : ∀ p, p ∈ l → f' p = f p) : Bk f' a l := by
  induction l generalizing a with
  | nil => trivial
  | cons p l ih => exact ⟨(hv p (List.mem_cons_self ..)).trans h.1, ih h.2 fun q hq => hv q (List.mem_cons_of_mem _ hq)⟩
theorem Ch.at {V : Int → Int → Int} {pre suf : List Int} {p : Int} (h : Ch V (pre ++ p :: suf)) : V p 3 = suf.headD 0 := by
  induction pre with
  | nil => exact h.1
  | cons x pre ih => exact ih h.2
theorem Bk.at {f : Int → Int} {a : Int} {pre suf : List Int} {p : Int} (h : Bk f a (pre ++ p :: suf)) : f p = pre.getLastD a := by
  induction pre generalizing a with
  | nil => exact h.1
  | cons x pre ih =>
    rw [List.getLastD_cons]
    exact ih h.2
theorem Ch.cut {V : Int → Int → Int} {pre suf : List Int} {p : Int} (h : Ch V (pre ++ p :: suf)) (nd : (pre ++ p :: suf).Nodup) : Ch (if pre = [] then V else vset V (pre.getLastD 0) 3 (suf.headD 0)) (pre ++ suf) := by
  induction pre with
  | nil => exact h.2
  | cons x pre ih =>
    rw [if_neg (by simp)]
    have nd' := (List.nodup_cons.1 nd)
    cases pre with
    | nil =>
      refine ⟨?_, ?_⟩
      · show vset V x 3 (suf.headD 0) x 3 = _
        rw [vset_same]
        rfl
      · refine (h.2.2 : Ch V suf).other fun q hq => vset_other (Or.inl ?_)
        rintro rfl
        exact nd'.1 (List.mem_cons_of_mem _ hq)
    | cons y pre =>
      have ih' := ih h.2 nd'.2
      rw [if_neg (by simp)] at ih'
      have e : (x :: y :: pre).getLastD 0 = (y :: pre).getLastD 0 := by
        rw [List.getLastD_cons, List.getLastD_cons, List.getLastD_cons]
      rw [e]
      refine ⟨?_, ih'⟩
      rw [vset_other (Or.inl ?_)]
      · exact h.1
      · intro e2
        have hm : (y :: pre).getLastD 0 ∈ y :: pre := by
          rw [List.getLastD_cons]
          exact List.getLastD_mem_cons ..
        rw [← e2] at hm
        exact nd'.1 (List.mem_append_left _ hm)
theorem Bk.cut {f : Int → Int} {a : Int} {pre suf : List Int} {p : Int} (h : Bk f a (pre ++ p :: suf)) (nd : (pre ++ p :: suf).Nodup) : Bk (if suf = [] then f else fput f (suf.headD 0) (pre.getLastD a)) a (pre ++ suf) := by
  induction pre generalizing a with
  | nil =>
    cases suf with
    | nil => trivial
    | cons s l =>
      rw [if_neg (by simp)]
      have nd' := (List.nodup_cons.1 (List.nodup_cons.1 nd).2)
      refine ⟨if_pos rfl, h.2.2.other fun q hq => if_neg ?_⟩
      rintro rfl
      exact nd'.1 hq
  | cons x pre ih =>
    have nd' := (List.nodup_cons.1 nd)
    have ih' := ih h.2 nd'.2
    rw [List.getLastD_cons]
    refine ⟨?_, ih'⟩
    by_cases e : suf = []
    · rw [if_pos e]
      exact h.1
    · rw [if_neg e]
      refine (if_neg ?_).trans h.1
      intro e2
      cases suf with
      | nil => exact e rfl
      | cons s l =>
        refine nd'.1 ?_
        rw [e2]
        simp
theorem Ch.snoc {V : Int → Int → Int} {l : List Int} {p : Int} (h : Ch V l) (hp : p ∉ l) (nd : l.Nodup) : Ch (if l = [] then vset V p 3 0 else vset (vset V p 3 0) (l.getLastD 0) 3 p) (l ++ [p]) := by
  induction l with
  | nil =>
    refine ⟨?_, trivial⟩
    simp [vset_same]
  | cons x l ih =>
    rw [if_neg (by simp)]
    have nd' := List.nodup_cons.1 nd
    have hpx : p ≠ x := fun e => hp (e ▸ List.mem_cons_self ..)
    cases l with
    | nil =>
      refine ⟨?_, ?_, trivial⟩
      · show vset (vset V p 3 0) x 3 p x 3 = _
        rw [vset_same]
        rfl
      · show vset (vset V p 3 0) x 3 p p 3 = _
        rw [vset_other (Or.inl hpx), vset_same]
        rfl
    | cons y l =>
      have ih' := ih h.2 (fun e => hp (List.mem_cons_of_mem _ e)) nd'.2
      rw [if_neg (by simp)] at ih'
      have e : (x :: y :: l).getLastD 0 = (y :: l).getLastD 0 := by
        rw [List.getLastD_cons, List.getLastD_cons, List.getLastD_cons]
      rw [e]
      refine ⟨?_, ih'⟩
      rw [vset_other (Or.inl ?_), vset_other (Or.inl (Ne.symm hpx))]
      · exact h.1
      · intro e2
        have hm : (y :: l).getLastD 0 ∈ y :: l := by
          rw [List.getLastD_cons]
          exact List.getLastD_mem_cons ..
        rw [← e2] at hm
        exact nd'.1 hm
theorem nodup_mid {pre suf : List Int} {p : Int} (h : (pre ++ p :: suf).Nodup) : (p :: (pre ++ suf)).Nodup := List.perm_middle.nodup_iff.1 h
/-- THE TABLE IN LISTS: its row, its queue. -/
structure Tbl (m : LM) (row queue : List Int) : Prop where
  first : m.first = row.headD 0
  ch : Ch m.V row
  bk : Bk m.f 0 row
  dom : ∀ p, p ∈ m.dom ↔ p ∈ row
  dn : m.dom.Nodup
  dl : m.dom.length = row.length
  qu : m.qu = queue.headD 0
  la : m.la = queue.getLastD 0
  cn : m.cn = queue.length
  cq : Ch m.V queue
  nd : (row ++ queue).Nodup
  ob : ∀ p, p ∈ row ∨ p ∈ queue → ∃ o, o ∈ m.O ∧ o.p = p ∧ o.s = 4
  pos : ∀ p, p ∈ row ∨ p ∈ queue → 1 ≤ p
theorem headD_zero {l : List Int} (h : ∀ p, p ∈ l → 1 ≤ p) : l.headD 0 = 0 ↔ l = [] := by
  cases l with
  | nil => simp
  | cons x l =>
    have := h x (List.mem_cons_self ..)
    simp
    omega
theorem lastD_zero {l : List Int} (h : ∀ p, p ∈ l → 1 ≤ p) : l.getLastD 0 = 0 ↔ l = [] := by
  cases l with
  | nil => simp
  | cons x l =>
    have hm : (x :: l).getLastD 0 ∈ x :: l := by
      rw [List.getLastD_cons]
      exact List.getLastD_mem_cons ..
    have := h _ hm
    constructor
    · intro e; omega
    · intro e; cases e
theorem lastD_mem {l : List Int} (h : l ≠ []) : l.getLastD 0 ∈ l := by
  cases l with
  | nil => exact absurd rfl h
  | cons x l =>
    rw [List.getLastD_cons]
    exact List.getLastD_mem_cons ..
section
variable {m : LM} {row queue pre suf : List Int} {p : Int}
/-- It hangs on what it names alone. -/
theorem Tbl.other {m' : LM} (h : Tbl m row queue) (e : m'.first = m.first ∧ m'.f = m.f ∧ m'.dom = m.dom ∧ m'.qu = m.qu ∧ m'.la = m.la ∧ m'.cn = m.cn) (hv : ∀ p, p ∈ row ∨ p ∈ queue → m'.V p 3 = m.V p 3) (ho : ∀ o, o ∈ m.O → ∃ o', o' ∈ m'.O ∧ o'.p = o.p ∧ o'.s = o.s) : Tbl m' row queue := by
  obtain ⟨e1, e2, e3, e4, e5, e6⟩ := e
  refine ⟨e1.trans h.first, h.ch.other fun p hp => hv p (Or.inl hp), by rw [e2]; exact h.bk, by rw [e3]; exact h.dom, by rw [e3]; exact h.dn, by rw [e3]; exact h.dl, e4.trans h.qu, e5.trans h.la, e6.trans h.cn, h.cq.other fun p hp => hv p (Or.inr hp), h.nd, fun p hp => ?_, h.pos⟩
  obtain ⟨o, h1, h2, h3⟩ := h.ob p hp
  obtain ⟨o', g1, g2, g3⟩ := ho o h1
  exact ⟨o', g1, g2.trans h2, g3.trans h3⟩
theorem turnO_keeps {O : List Ob} {p : Int} {f : Ob → Ob} (hf : ∀ o, (f o).p = o.p ∧ (f o).s = o.s) {o : Ob} (ho : o ∈ O) : ∃ o', o' ∈ turnO O p f ∧ o'.p = o.p ∧ o'.s = o.s := by
  by_cases e : o.p = p
  · exact ⟨_, turnO_in ho e, hf o⟩
  · exact ⟨o, turnO_out ho e, rfl, rfl⟩
/-- Behind leave. -/
def left (m : LM) (p a b : Int) : LM := { joined m a b with f := fput (joined m a b).f p 0, dom := (joined m a b).dom.erase p }
theorem Tbl.leave (h : Tbl m (pre ++ p :: suf) queue) : Tbl (left m p (pre.getLastD 0) (suf.headD 0)) (pre ++ suf) queue := by
  have nd := (List.nodup_append.1 h.nd)
  have hpre : pre.getLastD 0 = 0 ↔ pre = [] := lastD_zero fun q hq => h.pos q (Or.inl (List.mem_append_left _ hq))
  have hsuf : suf.headD 0 = 0 ↔ suf = [] := headD_zero fun q hq => h.pos q (Or.inl (List.mem_append_right _ (List.mem_cons_of_mem _ hq)))
  have hmem : ∀ q, q ∈ pre ++ suf → q ∈ pre ++ p :: suf := fun q hq => by
    rcases List.mem_append.1 hq with hq | hq
    · exact List.mem_append_left _ hq
    · exact List.mem_append_right _ (List.mem_cons_of_mem _ hq)
  have hp : p ∉ pre ++ suf := fun hq => by
    have h1 := nodup_mid nd.1
    exact (List.nodup_cons.1 h1).1 hq
  have edom : (joined m (pre.getLastD 0) (suf.headD 0)).dom = m.dom := by
    unfold joined
    by_cases e : suf = []
    · simp only [if_pos (hsuf.2 e)]
    · simp only [if_neg (fun e2 => e (hsuf.1 e2))]
      unfold dput
      refine if_pos ((h.dom _).2 ?_)
      cases suf with
      | nil => exact absurd rfl e
      | cons s l => simp
  have eV : (joined m (pre.getLastD 0) (suf.headD 0)).V = if pre = [] then m.V else vset m.V (pre.getLastD 0) 3 (suf.headD 0) := by
    unfold joined
    simp only [hpre]
  have ef : (joined m (pre.getLastD 0) (suf.headD 0)).f = if suf = [] then m.f else fput m.f (suf.headD 0) (pre.getLastD 0) := by
    unfold joined
    simp only [hsuf]
  refine ⟨?_, ?_, ?_, fun q => ?_, ?_, ?_, h.qu, h.la, h.cn, ?_, ?_, fun q hq => h.ob q (hq.imp (hmem q) id), fun q hq => h.pos q (hq.imp (hmem q) id)⟩
  · show (joined m (pre.getLastD 0) (suf.headD 0)).first = _
    unfold joined
    simp only
    by_cases e : pre = []
    · subst e
      simp
    · rw [if_neg (fun e2 => e (hpre.1 e2)), h.first]
      cases pre with
      | nil => exact absurd rfl e
      | cons x pre => rfl
  · show Ch (joined m (pre.getLastD 0) (suf.headD 0)).V _
    rw [eV]
    exact h.ch.cut nd.1
  · show Bk (fput (joined m (pre.getLastD 0) (suf.headD 0)).f p 0) 0 _
    rw [ef]
    refine (h.bk.cut nd.1).other fun q hq => if_neg ?_
    rintro rfl
    exact hp hq
  · show q ∈ (joined m (pre.getLastD 0) (suf.headD 0)).dom.erase p ↔ _
    rw [edom]
    constructor
    · intro hq
      have h1 := (h.dom q).1 (List.mem_of_mem_erase hq)
      rcases List.mem_append.1 h1 with h1 | h1
      · exact List.mem_append_left _ h1
      · rcases List.mem_cons.1 h1 with rfl | h1
        · exact absurd hq h.dn.not_mem_erase
        · exact List.mem_append_right _ h1
    · intro hq
      have hne : q ≠ p := fun e => hp (e ▸ hq)
      exact (List.mem_erase_of_ne hne).2 ((h.dom q).2 (hmem q hq))
  · show ((joined m (pre.getLastD 0) (suf.headD 0)).dom.erase p).Nodup
    rw [edom]
    exact h.dn.erase p
  · show ((joined m (pre.getLastD 0) (suf.headD 0)).dom.erase p).length = _
    rw [edom, List.length_erase_of_mem ((h.dom p).2 (by simp)), h.dl]
    simp
  · show Ch (joined m (pre.getLastD 0) (suf.headD 0)).V _
    rw [eV]
    by_cases e : pre = []
    · rw [if_pos e]
      exact h.cq
    · rw [if_neg e]
      refine h.cq.other fun q hq => vset_other (Or.inl ?_)
      intro e2
      exact nd.2.2 (pre.getLastD 0) (List.mem_append_left _ (lastD_mem e)) q hq e2.symm
  · refine List.nodup_append.2 ⟨?_, nd.2.1, fun a ha b hb => nd.2.2 a (hmem a ha) b hb⟩
    exact (List.nodup_cons.1 (nodup_mid nd.1)).2
/-- Behind Add. -/
def added (m : LM) (p : Int) : LM := joined (joined m p m.first) 0 p
theorem Tbl.add (h : Tbl m row queue) {o : Ob} (ho : o ∈ m.O) (hs : o.s = 4) (h1 : 1 ≤ o.p) (hn : o.p ∉ row ++ queue) : Tbl (added m o.p) (o.p :: row) queue := by
  have nr : o.p ∉ row := fun e => hn (List.mem_append_left _ e)
  have nq : o.p ∉ queue := fun e => hn (List.mem_append_right _ e)
  have hf := h.first
  have hrow : row.headD 0 = 0 ↔ row = [] := headD_zero fun q hq => h.pos q (Or.inl hq)
  have n0 : o.p ≠ 0 := by omega
  have nd := (List.nodup_append.1 h.nd)
  have eV : (added m o.p).V = vset m.V o.p 3 (row.headD 0) := by
    unfold added joined
    simp only [if_pos, if_neg n0, hf]
  have ef : (added m o.p).f = fput (if row = [] then m.f else fput m.f (row.headD 0) o.p) o.p 0 := by
    unfold added joined
    simp only [if_neg n0, hf, hrow]
  have ed : (added m o.p).dom = o.p :: m.dom := by
    unfold added joined
    simp only [if_neg n0, hf]
    have e1 : (if row.headD 0 = 0 then m.dom else dput m.dom (row.headD 0)) = m.dom := by
      by_cases e : row = []
      · rw [if_pos (hrow.2 e)]
      · rw [if_neg (fun e2 => e (hrow.1 e2))]
        unfold dput
        refine if_pos ((h.dom _).2 ?_)
        cases row with
        | nil => exact absurd rfl e
        | cons s l => simp
    rw [e1]
    unfold dput
    exact if_neg fun e => nr ((h.dom _).1 e)
  refine ⟨?_, ⟨?_, ?_⟩, ⟨?_, ?_⟩, fun q => ?_, ?_, ?_, h.qu, h.la, h.cn, ?_, ?_, fun q hq => ?_, fun q hq => ?_⟩
  · unfold added joined
    simp
  · rw [eV, vset_same]
  · rw [eV]
    refine h.ch.other fun q hq => vset_other (Or.inl ?_)
    rintro rfl
    exact nr hq
  · rw [ef]
    exact if_pos rfl
  · rw [ef]
    cases row with
    | nil => trivial
    | cons r l =>
      rw [if_neg (by simp)]
      have hne : r ≠ o.p := fun e => nr (e ▸ List.mem_cons_self ..)
      have nd' := List.nodup_cons.1 nd.1
      refine ⟨?_, h.bk.2.other fun q hq => ?_⟩
      · rw [show fput (fput m.f ((r :: l).headD 0) o.p) o.p 0 r = fput m.f ((r :: l).headD 0) o.p r from if_neg hne]
        exact if_pos rfl
      · rw [show fput (fput m.f ((r :: l).headD 0) o.p) o.p 0 q = fput m.f ((r :: l).headD 0) o.p q from if_neg (fun e => nr (by rw [← e]; exact List.mem_cons_of_mem _ hq))]
        refine if_neg ?_
        rintro rfl
        exact nd'.1 hq
  · rw [ed, List.mem_cons, List.mem_cons, h.dom]
  · rw [ed]
    exact List.nodup_cons.2 ⟨fun e => nr ((h.dom _).1 e), h.dn⟩
  · rw [ed, List.length_cons, List.length_cons, h.dl]
  · rw [eV]
    refine h.cq.other fun q hq => vset_other (Or.inl ?_)
    rintro rfl
    exact nq hq
  · exact List.nodup_cons.2 ⟨hn, h.nd⟩
  · rcases hq with hq | hq
    · rcases List.mem_cons.1 hq with rfl | hq
      · exact ⟨o, ho, rfl, hs⟩
      · exact h.ob q (Or.inl hq)
    · exact h.ob q (Or.inr hq)
  · rcases hq with hq | hq
    · rcases List.mem_cons.1 hq with rfl | hq
      · exact h1
      · exact h.pos q (Or.inl hq)
    · exact h.pos q (Or.inr hq)
/-- Behind bury. -/
def buryV (m : LM) (p : Int) : Int → Int → Int := if m.la = 0 then vset (vset (vset m.V p 0 0) p 1 0) p 3 0 else vset (vset (vset (vset m.V p 0 0) p 1 0) p 3 0) m.la 3 p
def tombed (m : LM) (p number : Int) : LM := { m with O := turnO m.O p fun q => { q with k := 10, a := number }, V := buryV m p, qu := if m.la = 0 then p else m.qu, la := p, cn := m.cn + 1 }
theorem Tbl.tomb (h : Tbl m row queue) {o : Ob} (ho : o ∈ m.O) (hs : o.s = 4) (h1 : 1 ≤ o.p) (hn : o.p ∉ row ++ queue) (number : Int) : Tbl (tombed m o.p number) row (queue ++ [o.p]) := by
  have nr : o.p ∉ row := fun e => hn (List.mem_append_left _ e)
  have nq : o.p ∉ queue := fun e => hn (List.mem_append_right _ e)
  have nd := (List.nodup_append.1 h.nd)
  have hq0 : m.la = 0 ↔ queue = [] := by rw [h.la]; exact lastD_zero fun q hq => h.pos q (Or.inr hq)
  have hV : ∀ q, q ≠ o.p → (q ≠ m.la ∨ queue = []) → (tombed m o.p number).V q 3 = m.V q 3 := fun q h1 h2 => by
    show buryV m o.p q 3 = _
    unfold buryV
    by_cases e : m.la = 0
    · rw [if_pos e, vset_other (Or.inl h1), vset_other (Or.inl h1), vset_other (Or.inl h1)]
    · rw [if_neg e, vset_other (Or.inl (h2.resolve_right fun e2 => e (hq0.2 e2))), vset_other (Or.inl h1), vset_other (Or.inl h1), vset_other (Or.inl h1)]
  refine ⟨h.first, h.ch.other fun q hq => hV q (fun e => nr (e ▸ hq)) ?_, h.bk, h.dom, h.dn, h.dl, ?_, ?_, ?_, ?_, ?_, fun q hq => ?_, fun q hq => ?_⟩
  · by_cases e : queue = []
    · exact Or.inr e
    · left
      rw [h.la]
      intro e2
      exact nd.2.2 q hq _ (lastD_mem e) e2
  · show (if m.la = 0 then o.p else m.qu) = _
    by_cases e : queue = []
    · rw [if_pos (hq0.2 e)]
      subst e
      rfl
    · rw [if_neg (fun e2 => e (hq0.1 e2)), h.qu]
      cases queue with
      | nil => exact absurd rfl e
      | cons s l => rfl
  · show o.p = _
    simp
  · show m.cn + 1 = _
    rw [h.cn]
    simp
  · have := (h.cq.other (V' := vset (vset m.V o.p 0 0) o.p 1 0) fun q hq => by rw [vset_other (Or.inr (by decide)), vset_other (Or.inr (by decide))]).snoc nq nd.2.1
    show Ch (buryV m o.p) _
    unfold buryV
    by_cases e : queue = []
    · rw [if_pos e] at this
      rw [if_pos (hq0.2 e)]
      exact this
    · rw [if_neg e] at this
      rw [if_neg (fun e2 => e (hq0.1 e2)), h.la]
      exact this
  · rw [← List.append_assoc]
    refine List.nodup_append.2 ⟨h.nd, by simp, fun a ha b hb => ?_⟩
    rw [List.mem_singleton] at hb
    subst hb
    rintro rfl
    exact hn ha
  · have key : ∀ o', o' ∈ m.O → ∃ o2, o2 ∈ (tombed m o.p number).O ∧ o2.p = o'.p ∧ o2.s = o'.s := fun o' ho' => turnO_keeps (f := fun q => { q with k := 10, a := number }) (fun _ => ⟨rfl, rfl⟩) ho'
    have : ∃ o', o' ∈ m.O ∧ o'.p = q ∧ o'.s = 4 := by
      rcases hq with hq | hq
      · exact h.ob q (Or.inl hq)
      · rcases List.mem_append.1 hq with hq | hq
        · exact h.ob q (Or.inr hq)
        · rw [List.mem_singleton] at hq
          exact ⟨o, ho, hq.symm, hs⟩
    obtain ⟨o', g1, g2, g3⟩ := this
    obtain ⟨o2, k1, k2, k3⟩ := key o' g1
    exact ⟨o2, k1, k2.trans g2, k3.trans g3⟩
  · rcases hq with hq | hq
    · exact h.pos q (Or.inl hq)
    · rcases List.mem_append.1 hq with hq | hq
      · exact h.pos q (Or.inr hq)
      · rw [List.mem_singleton] at hq
        omega
/-- Behind Take. -/
def taken (m : LM) (p b : Int) : LM := { m with V := vset (vset m.V p 2 0) p 3 0, qu := b, la := if b = 0 then 0 else m.la, cn := m.cn - 1 }
theorem Tbl.take (h : Tbl m row (p :: suf)) : Tbl (taken m p (suf.headD 0)) row suf := by
  have nd := (List.nodup_append.1 h.nd)
  have hV : ∀ q, q ≠ p → (taken m p (suf.headD 0)).V q 3 = m.V q 3 := fun q h1 => by
    show vset (vset m.V p 2 0) p 3 0 q 3 = _
    rw [vset_other (Or.inl h1), vset_other (Or.inl h1)]
  have nds := List.nodup_cons.1 nd.2.1
  have hs : suf.headD 0 = 0 ↔ suf = [] := headD_zero fun q hq => h.pos q (Or.inr (List.mem_cons_of_mem _ hq))
  refine ⟨h.first, h.ch.other fun q hq => hV q ?_, h.bk, h.dom, h.dn, h.dl, rfl, ?_, ?_, h.cq.2.other fun q hq => hV q ?_, ?_, fun q hq => h.ob q (hq.imp id (List.mem_cons_of_mem _)), fun q hq => h.pos q (hq.imp id (List.mem_cons_of_mem _))⟩
  · rintro rfl
    exact nd.2.2 q hq q (List.mem_cons_self ..) rfl
  · show (if suf.headD 0 = 0 then 0 else m.la) = _
    by_cases e : suf = []
    · subst e
      simp
    · rw [if_neg (fun e2 => e (hs.1 e2)), h.la]
      cases suf with
      | nil => exact absurd rfl e
      | cons s l => rw [List.getLastD_cons, List.getLastD_cons, List.getLastD_cons]
  · show m.cn - 1 = _
    rw [h.cn]
    simp
  · rintro rfl
    exact nds.1 hq
  · exact List.nodup_append.2 ⟨nd.1, nds.2, fun a ha b hb => nd.2.2 a ha b (List.mem_cons_of_mem _ hb)⟩
end
end Go.Proofs.Ythliahaopelooaa
/- The table of weak pointers: leave, Add, Begin, isPointer, isMarked. -/
namespace Go.Proofs.Ythliahaopelooaa
open Go.RowKit
section
variable {Kx : Nat → Prop} {S : LSp} {m : LM} {u : Int} {W : World}
set_option maxHeartbeats 2000000 in
theorem wleave_out (h : Lm Kx S m u W) {p : Int} (hp : 0 ≤ p ∧ p ≤ 65536) (hd : p ∉ m.dom) : Calls Try.prog 53 #[.pointer (some ⟨S.tb, 0, none⟩), .int .i64 p] W (Aft Kx S m u 0 (.tuple #[]) W) := by
  have hlk := h.map.look_ok p (wf_place hp.1 hp.2)
  have hf : decide (p ∈ m.dom) = false := decide_eq_false hd
  rw [hf] at hlk
  generalize m.f p = fp at *
  have c3 := h.a3.1.a
  have H := Lib.hid h
  clear h hd hf
  go_enter Try.func53, Try.ntmps53
  go_wp2_with fail
  refine bodyPost_ret (v := .tuple #[]) (by simp [results, Try.results53, go_sem]) rfl ?_
  exact ⟨rfl, u, H.out, Kp.refl _ _, Us.refl u⟩
set_option maxHeartbeats 4000000 in
theorem wleave_in (h : Lm Kx S m u W) {pre suf queue : List Int} {p : Int} (ht : Tbl m (pre ++ p :: suf) queue) (hn : m.nx ≠ p) (hl : m.dom.length < 90000) :
    Calls Try.prog 53 #[.pointer (some ⟨S.tb, 0, none⟩), .int .i64 p] W (Aft Kx S (left m p (pre.getLastD 0) (suf.headD 0)) u 4 (.tuple #[]) W) := by
  obtain ⟨o, ho, rfl, hs⟩ := ht.ob p (Or.inl (by simp))
  have hpp := lm_pos h ho
  have hlk := h.map.look_ok o.p (wf_place (by omega) (by omega))
  have hf : decide (o.p ∈ m.dom) = true := decide_eq_true ((ht.dom _).2 (by simp))
  rw [hf, ht.bk.at] at hlk
  have hch := ht.ch.at
  have hB := fun (W' : World) (u' : Int) (h' : Lm Kx S m u' W') => wbehind_any h' ho hs
  rw [hch] at hB
  have ha : pre.getLastD 0 = 0 ∨ ∃ o, o ∈ m.O ∧ o.p = pre.getLastD 0 ∧ o.s = 4 := by
    by_cases e : pre = []
    · subst e; exact Or.inl rfl
    · exact Or.inr (ht.ob _ (Or.inl (List.mem_append_left _ (lastD_mem e))))
  have hb : 0 ≤ suf.headD 0 ∧ suf.headD 0 ≤ 65536 := by
    cases suf with
    | nil => simp
    | cons s l =>
      obtain ⟨o2, ho2, e2, hs2⟩ := ht.ob s (Or.inl (by simp))
      have := lm_pos h ho2
      simp only [List.headD_cons]
      omega
  have hJ := fun (W' : World) (u' : Int) (h' : Lm Kx S m u' W') => wjoin_any h' (pre.getLastD 0) (suf.headD 0) ha hb hl
  have hnd : (joined m (pre.getLastD 0) (suf.headD 0)).dom.Nodup := by
    unfold joined
    simp only
    split
    · exact ht.dn
    · unfold dput
      split
      · exact ht.dn
      · exact List.nodup_cons.2 ⟨by assumption, ht.dn⟩
  have HK := Lib.hid (And.intro hB (And.intro hJ hnd))
  have hnx : (m.nx == o.p) = false := by simpa using hn
  have c3 := h.a3.1.a
  have H := Lib.hid h
  have hwp := wf_place (c := o.p) (by omega) (by omega)
  have hleft : left m o.p (pre.getLastD 0) (suf.headD 0) = { joined m (pre.getLastD 0) (suf.headD 0) with f := fput (joined m (pre.getLastD 0) (suf.headD 0)).f o.p 0, dom := (joined m (pre.getLastD 0) (suf.headD 0)).dom.erase o.p } := rfl
  rw [hleft]
  clear h ht hf hch hB ha hb hJ hnd hn hpp hs ho hleft
  generalize joined m (pre.getLastD 0) (suf.headD 0) = m2 at *
  generalize pre.getLastD 0 = a at *
  generalize suf.headD 0 = b at *
  generalize o.p = p at *
  go_enter Try.func53, Try.ntmps53
  go_wp2_with fail
  refine (HK.out.1 W u H.out).mono ?_
  rintro e w2 ⟨rfl, u2, h2, hb2, hu2⟩
  have c4 := h2.a3.1.nx
  have H2 := Lib.hid (And.intro h2 (And.intro hb2 hu2))
  clear h2 hb2 hu2 c3 hlk
  go_wp2_with fail
  refine (HK.out.2.1 w2 u2 H2.out.1).mono ?_
  rintro e w3 ⟨rfl, u3, h3, hb3, hu3⟩
  have c3 := h3.a3.1.a
  have HM := Lib.hid h3.map
  have H3 := Lib.hid (And.intro h3 (And.intro (H2.out.2.1.trans hb3) (H2.out.2.2.trans hu3)))
  clear h3 hb3 hu3 c4 H2
  go_wp2_with (at_delete; refine wp_cdel _ rfl _ _ rfl S.ab m2.dom.length m2.f m2.dom rfl HM.out HK.out.2.2 p rfl hwp ?_; intro w4 h4 g4)
  have h5 := H3.out.1.mapped g4 h4
  refine bodyPost_end (v := .tuple #[]) (by simp [results, Try.results53, go_sem]) rfl ?_
  exact ⟨rfl, u3, h5.1, H3.out.2.1.trans h5.2, H3.out.2.2⟩
theorem box_cells (w : World) (a b c d : Value) (t : TypeId) : (w.alloc (.cells #[a, b, c, d] t)).cell? ⟨w.heap.size, 0, none⟩ = some a ∧ (w.alloc (.cells #[a, b, c, d] t)).cell? ⟨w.heap.size, 1, none⟩ = some b ∧ (w.alloc (.cells #[a, b, c, d] t)).cell? ⟨w.heap.size, 2, none⟩ = some c ∧ (w.alloc (.cells #[a, b, c, d] t)).cell? ⟨w.heap.size, 3, none⟩ = some d := by
  refine ⟨?_, ?_, ?_, ?_⟩ <;> simp [go_sem]
set_option maxHeartbeats 2000000 in
theorem pointer_any (k s a m : Int) (w : World) : Calls Try.prog 38 #[.agg #[.int .i64 k, .int .i64 s, .int .i64 a, .int .i64 m]] w fun e w' => e = .returned (.bool (decide (k = 9 ∧ s = 4))) ∧ Below w.heap.size w w' := by
  have hx := (Below.refl w.heap.size w).alloc (Nat.le_refl _) (.cells #[.int .i64 k, .int .i64 s, .int .i64 a, .int .i64 m] 46)
  obtain ⟨b0, b1, -, -⟩ := box_cells w (.int .i64 k) (.int .i64 s) (.int .i64 a) (.int .i64 m) 46
  have HX := Lib.hid hx
  have key : (k == 9) = true ∧ (s == 4) = true ∧ decide (k = 9 ∧ s = 4) = true ∨ (k == 9) = true ∧ (s == 4) = false ∧ decide (k = 9 ∧ s = 4) = false ∨ (k == 9) = false ∧ decide (k = 9 ∧ s = 4) = false := by
    by_cases e1 : k = 9 <;> by_cases e2 : s = 4 <;> simp [e1, e2]
  clear hx
  generalize decide (k = 9 ∧ s = 4) = r at *
  go_enter Try.func38, Try.ntmps38
  go_upto_region 1 with fail
  generalize (w.alloc (.cells #[.int .i64 k, .int .i64 s, .int .i64 a, .int .i64 m] 46)) = W at *
  rcases key with ⟨g1, g2, rfl⟩ | ⟨g1, g2, rfl⟩ | ⟨g1, rfl⟩
  all_goals go_wp2_with fail
  all_goals go_ret
  all_goals exact ⟨rfl, HX.out⟩
theorem wparity_any (hb : Nat) (par : Int) (W : World) (c6 : W.cell? ⟨hb, 6, none⟩ = some (.int .i64 par)) : Calls Try.prog 67 #[.pointer (some ⟨hb, 0, none⟩)] W fun e w' => e = .returned (.int .i64 par) ∧ Below W.heap.size W w' := by
  go_enter Try.func67, Try.ntmps67
  go_wp2_with fail
  go_ret
  exact ⟨rfl, Below.refl _ _⟩
theorem wparity_regrown (hb : Nat) (par : Int) (W : World) (d : Nat) (os : Array Obj) (c6 : W.cell? ⟨hb, 6, none⟩ = some (.int .i64 par)) :
    Calls Try.prog 67 #[.pointer (some ⟨hb, 0, none⟩)] (Sort.grow (redrawn W d) os) fun e w'' => e = .returned (.int .i64 par) ∧ ∃ p : Regrown, w'' = Sort.grow (redrawn W p.d) p.os :=
  Calls.regrown_of (wparity_any hb par _ (cell_regrown c6 d os))
theorem Lm.c6 (h : Lm Kx S m u W) : W.cell? ⟨S.hb, 6, none⟩ = some (.int .i64 m.par) := by
  obtain ⟨x, T, D, R, top, L, G, vk, vw, vm, vs, h⟩ := h
  have c6 := h.ha.1.par
  rw [h.xh] at c6
  exact c6
set_option maxHeartbeats 4000000 in
set_option maxRecDepth 100000 in
theorem wmarked_any (h : Lm Kx S m u W) {o c : Ob} (ho : o ∈ m.O) (hs : o.s = 4) (hc : c ∈ m.O) (hk : m.V o.p 0 = c.p) : Calls Try.prog 39 #[.pointer (some ⟨S.tb, 0, none⟩), .int .i64 o.p] W (Aft Kx S m u 3 (.bool (decide (c.m = m.par))) W) := by
  have hcp := lm_pos h hc
  have e1 : (c.p != 0) = true := by
    have : c.p ≠ 0 := by omega
    simpa using this
  have hG := lm_get h ho (j := 0) (by decide) (by rw [hs]; decide)
  rw [hk] at hG
  have H1 := Lib.hid hG
  have HC := Lib.hid (fun (W' : World) (u' : Int) (h' : Lm Kx S m u' W') => lm_cell h' hc)
  have HP := Lib.hid (fun (W' : World) (u' : Int) (h' : Lm Kx S m u' W') => lm_parity h')
  have c0 := h.a3.1.h
  have hbs := h.bs
  clear h ho hs hc hk hcp hG
  generalize c.p = kp at *
  generalize c.k = ck at *
  generalize c.s = cs at *
  generalize c.a = ca at *
  generalize c.m = cm at *
  generalize o.p = p at *
  go_enter Try.func39, Try.ntmps39
  go_wp2_with fail
  refine H1.out.mono ?_
  rintro e w2 ⟨rfl, u2, h2, hb2, hu2⟩
  have H2 := Lib.hid (And.intro h2 (And.intro hb2 hu2))
  replace c0 := h2.a3.1.h
  clear h2 hb2 hu2 H1
  go_wp2_with fail
  refine (HC.out w2 u2 H2.out.1).mono ?_
  rintro e w3 ⟨rfl, u3, h3, hb3, hu3⟩
  have hx := (Below.refl w3.heap.size w3).alloc (Nat.le_refl _) (.cells #[.int .i64 ck, .int .i64 cs, .int .i64 ca, .int .i64 cm] 46)
  obtain ⟨-, -, -, b3⟩ := box_cells w3 (.int .i64 ck) (.int .i64 cs) (.int .i64 ca) (.int .i64 cm) 46
  have h4 := h3.later hx
  have H4 := Lib.hid (And.intro h4.1 (And.intro ((H2.out.2.1.trans hb3).trans h4.2) (H2.out.2.2.trans hu3)))
  replace c0 := h4.1.a3.1.h
  clear h3 hb3 hu3 h4 H2 HC hx
  go_upto_region 3 with fail
  generalize (w3.alloc (.cells #[.int .i64 ck, .int .i64 cs, .int .i64 ca, .int .i64 cm] 46)) = w4 at *
  have c6 := H4.out.1.c6
  have k0 := cell_regrown c0
  have k1 := cell_regrown b3
  have k2 := cell_regrown c6
  have HA4 := Lib.hid H4.out.2
  refine wp_region_quiet_below (by kernel_rfl) (by kernel_rfl) ?_
  repeat (first | go_big_quiet_skip | (quiet_step (exact wparity_regrown _ _ _ _ _ (by assumption))))
  refine wpQuiet_nil ?_
  intro _ hw'
  obtain ⟨⟨dq, osq⟩, hw''⟩ := hw'
  subst hw''
  have hbq := below_regrown w4 dq osq
  have h5 := H4.out.1.later hbq
  have H5 := Lib.hid (And.intro h5.1 (H4.out.2.1.trans h5.2))
  clear hbq h5 k0 k1 k2 c0 b3 c6
  go_wp2_with fail
  go_ret
  exact ⟨rfl, u3, H5.out.1, H5.out.2, HA4.out.2⟩
end
end Go.Proofs.Ythliahaopelooaa
/- The table of weak pointers: Add, Begin, bury, Step. -/
namespace Go.Proofs.Ythliahaopelooaa
open Go.RowKit
section
variable {Kx : Nat → Prop} {S : LSp} {m : LM} {u : Int} {W : World}
set_option maxHeartbeats 4000000 in
set_option maxRecDepth 100000 in
theorem wadd_in (h : Lm Kx S m u W) {row queue : List Int} {o : Ob} (ht : Tbl m row queue) (ho : o ∈ m.O) (hk : o.k = 9) (hs : o.s = 4) (hn : o.p ∉ row ++ queue) (hl : m.dom.length < 80000) :
    Calls Try.prog 24 #[.pointer (some ⟨S.tb, 0, none⟩), .int .i64 o.p] W (Aft Kx S (added m o.p) u 5 (.int .i64 0) W) := by
  have hpp := lm_pos h ho
  have HC := Lib.hid (lm_cell h ho)
  have hnd : o.p ∉ m.dom := fun e => hn (List.mem_append_left _ ((ht.dom _).1 e))
  have HL := Lib.hid (fun (W' : World) (u' : Int) (h' : Lm Kx S m u' W') => wleave_out h' (p := o.p) (by omega) hnd)
  have hf : 0 ≤ m.first ∧ m.first ≤ 65536 := by
    rw [ht.first]
    cases row with
    | nil => simp
    | cons s l =>
      obtain ⟨o2, ho2, e2, hs2⟩ := ht.ob s (Or.inl (by simp))
      have := lm_pos h ho2
      simp only [List.headD_cons]
      omega
  have HJ1 := Lib.hid (fun (W' : World) (u' : Int) (h' : Lm Kx S m u' W') => wjoin_any h' o.p m.first (Or.inr ⟨o, ho, rfl, hs⟩) hf (by omega))
  have hl2 : (joined m o.p m.first).dom.length < 90000 := by
    unfold joined
    simp only
    split
    · omega
    · unfold dput
      split
      · omega
      · simp; omega
  have HJ2 := Lib.hid (fun (W' : World) (u' : Int) (h' : Lm Kx S (joined m o.p m.first) u' W') => wjoin_any h' 0 o.p (Or.inl rfl) (by omega) hl2)
  have hr : decide (o.k = 9 ∧ o.s = 4) = true := decide_eq_true ⟨hk, hs⟩
  have HP := Lib.hid (fun W' => pointer_any o.k o.s o.a o.m W')
  rw [hr] at HP
  have c0 := h.a3.1.h
  have H := Lib.hid h
  have ead : added m o.p = joined (joined m o.p m.first) 0 o.p := rfl
  rw [ead]
  generalize hm3 : joined (joined m o.p m.first) 0 o.p = m3 at *
  generalize joined m o.p m.first = m2 at *
  clear h ht ho hk hs hn hl hpp hnd hf hl2 hr ead hm3
  obtain ⟨fi, hfi⟩ : ∃ q, q = m.first := ⟨_, rfl⟩
  rw [← hfi] at HJ1
  have HFI := Lib.hid hfi
  clear hfi
  generalize o.p = p at *
  generalize o.k = ok at *
  generalize o.s = os at *
  generalize o.a = oa at *
  generalize o.m = om at *
  go_enter Try.func24, Try.ntmps24
  go_wp2_with fail
  refine HC.out.mono ?_
  rintro e w2 ⟨rfl, u2, h2, hb2, hu2⟩
  have hx := (Below.refl w2.heap.size w2).alloc (Nat.le_refl _) (.cells #[.int .i64 ok, .int .i64 os, .int .i64 oa, .int .i64 om] 46)
  obtain ⟨b0, b1, b2, b3⟩ := box_cells w2 (.int .i64 ok) (.int .i64 os) (.int .i64 oa) (.int .i64 om) 46
  have h4 := h2.later hx
  have H4 := Lib.hid (And.intro h4.1 (And.intro (hb2.trans h4.2) hu2))
  clear h2 hb2 hu2 h4 hx HC c0 H
  go_upto_region 4 with fail
  generalize (w2.alloc (.cells #[.int .i64 ok, .int .i64 os, .int .i64 oa, .int .i64 om] 46)) = w3 at *
  go_wp2_with fail
  refine (HP.out w3).mono ?_
  rintro e w4 ⟨rfl, hb4⟩
  have h5 := H4.out.1.later hb4
  have H5 := Lib.hid (And.intro h5.1 (And.intro (H4.out.2.1.trans h5.2) H4.out.2.2))
  clear h5 hb4 H4 b0 b1 b2 b3 HP
  go_wp2_with fail
  refine (HL.out w4 u2 H5.out.1).mono ?_
  rintro e w5 ⟨rfl, u5, h6, hb6, hu6⟩
  have H6 := Lib.hid (And.intro h6 (And.intro (H5.out.2.1.trans hb6) (H5.out.2.2.trans hu6)))
  have c2 := h6.a3.1.fi
  rw [← HFI.out] at c2
  clear h6 hb6 hu6 H5 HL
  go_wp2_with fail
  refine (HJ1.out w5 u5 H6.out.1).mono ?_
  rintro e w6 ⟨rfl, u7, h7, hb7, hu7⟩
  have H7 := Lib.hid (And.intro h7 (And.intro (H6.out.2.1.trans hb7) (H6.out.2.2.trans hu7)))
  clear h7 hb7 hu7 H6 HJ1 c2
  go_wp2_with fail
  refine (HJ2.out w6 u7 H7.out.1).mono ?_
  rintro e w7 ⟨rfl, u8, h8, hb8, hu8⟩
  have H8 := Lib.hid (And.intro h8 (And.intro (H7.out.2.1.trans hb8) (H7.out.2.2.trans hu8)))
  clear h8 hb8 hu8 H7 HJ2
  go_wp2_with fail
  go_ret
  exact ⟨rfl, u8, H8.out.1, H8.out.2.1, H8.out.2.2⟩
set_option maxHeartbeats 2000000 in
theorem wadd_kind (h : Lm Kx S m u W) {o : Ob} (ho : o ∈ m.O) (hk : ¬ (o.k = 9 ∧ o.s = 4)) :
    Calls Try.prog 24 #[.pointer (some ⟨S.tb, 0, none⟩), .int .i64 o.p] W (Aft Kx S m u 1 (.int .i64 6) W) := by
  have HC := Lib.hid (lm_cell h ho)
  have hr : decide (o.k = 9 ∧ o.s = 4) = false := decide_eq_false hk
  have HP := Lib.hid (fun W' => pointer_any o.k o.s o.a o.m W')
  rw [hr] at HP
  have c0 := h.a3.1.h
  clear h ho hk hr
  generalize o.p = p at *
  generalize o.k = ok at *
  generalize o.s = os at *
  generalize o.a = oa at *
  generalize o.m = om at *
  go_enter Try.func24, Try.ntmps24
  go_wp2_with fail
  refine HC.out.mono ?_
  rintro e w2 ⟨rfl, u2, h2, hb2, hu2⟩
  have hx := (Below.refl w2.heap.size w2).alloc (Nat.le_refl _) (.cells #[.int .i64 ok, .int .i64 os, .int .i64 oa, .int .i64 om] 46)
  obtain ⟨b0, b1, b2, b3⟩ := box_cells w2 (.int .i64 ok) (.int .i64 os) (.int .i64 oa) (.int .i64 om) 46
  have h4 := h2.later hx
  have H4 := Lib.hid (And.intro h4.1 (And.intro (hb2.trans h4.2) hu2))
  clear h2 hb2 hu2 h4 hx HC c0
  go_upto_region 4 with fail
  generalize (w2.alloc (.cells #[.int .i64 ok, .int .i64 os, .int .i64 oa, .int .i64 om] 46)) = w3 at *
  go_wp2_with fail
  refine (HP.out w3).mono ?_
  rintro e w4 ⟨rfl, hb4⟩
  have h5 := H4.out.1.later hb4
  have H5 := Lib.hid (And.intro h5.1 (And.intro (H4.out.2.1.trans h5.2) H4.out.2.2))
  clear h5 hb4 H4 b0 b1 b2 b3 HP
  go_wp2_with fail
  go_ret
  exact ⟨rfl, u2, H5.out.1, H5.out.2.1, H5.out.2.2⟩
set_option maxHeartbeats 1000000 in
theorem wbegin_any (h : Lm Kx S m u W) : Calls Try.prog 13 #[.pointer (some ⟨S.tb, 0, none⟩)] W (Aft Kx S { m with nx := m.first } u 0 (.tuple #[]) W) := by
  have c2 := h.a3.1.fi
  have c4 := h.a3.1.nx
  have z4 := h.a3.1.fz 4
  have h5 := h.nx m.first
  have H5 := Lib.hid h5
  clear h5 h
  go_enter Try.func13, Try.ntmps13
  go_wp2_with fail
  refine bodyPost_end (v := .tuple #[]) (by simp [results, Try.results13, go_sem]) rfl ?_
  exact ⟨rfl, u, H5.out.1, H5.out.2, Us.refl u⟩
set_option maxHeartbeats 8000000 in
set_option maxRecDepth 100000 in
theorem wbury_any (h : Lm Kx S m u W) {pre suf queue : List Int} {o : Ob} (ho : o ∈ m.O) (hs : o.s = 4) (ht : Tbl m (pre ++ o.p :: suf) queue) (hn : m.nx ≠ o.p) (hl : m.dom.length < 80000) (hc : m.cn < 100000) (hc0 : 0 ≤ m.cn) {number : Int} (hnum : 0 ≤ number ∧ number ≤ 16777215) :
    Calls Try.prog 40 #[.pointer (some ⟨S.tb, 0, none⟩), .int .i64 o.p, .int .i64 number] W (Aft Kx S (tombed (left m o.p (pre.getLastD 0) (suf.headD 0)) o.p number) u 14 (.tuple #[]) W) := by
  have ht2 := ht.leave
  have HL := Lib.hid (wleave_in h ht hn (by omega))
  have o2 : o ∈ (left m o.p (pre.getLastD 0) (suf.headD 0)).O := ho
  have ecn : (left m o.p (pre.getLastD 0) (suf.headD 0)).cn = m.cn := rfl
  have ela : (left m o.p (pre.getLastD 0) (suf.headD 0)).la = 0 ∨ ∃ q, q ∈ (left m o.p (pre.getLastD 0) (suf.headD 0)).O ∧ q.p = (left m o.p (pre.getLastD 0) (suf.headD 0)).la ∧ q.s = 4 := by
    rw [ht2.la]
    by_cases e : queue = []
    · subst e; exact Or.inl rfl
    · exact Or.inr (ht2.ob _ (Or.inr (lastD_mem e)))
  rw [← ecn] at hc hc0
  clear ht2 ht ho ecn hn hl
  generalize left m o.p (pre.getLastD 0) (suf.headD 0) = m1 at *
  have hs' := hs
  -- the object behind Become
  have e0 : (turnO m1.O o.p fun q => { q with k := 10, a := number }) = (turnO m1.O o.p fun q => { q with k := 10, a := number }) := rfl
  have o3 : ({ o with k := 10, a := number } : Ob) ∈ (turnO m1.O o.p fun q => { q with k := 10, a := number }) := turnO_in (f := fun q => { q with k := 10, a := number }) o2 rfl
  have HB := Lib.hid (fun (W' : World) (u' : Int) (h' : Lm Kx S m1 u' W') => lm_become h' o2 (k := 10) (a := number) (by decide) hnum)
  have HS1 := Lib.hid (fun (W' : World) (u' : Int) (h' : Lm Kx S { m1 with O := turnO m1.O o.p fun q => { q with k := 10, a := number } } u' W') => lm_set h' o3 (j := 0) (by decide) (by show (0 : Int) < o.s; rw [hs]; decide) 0)
  have HS2 := Lib.hid (fun (W' : World) (u' : Int) (h' : Lm Kx S { m1 with O := turnO m1.O o.p fun q => { q with k := 10, a := number }, V := vset m1.V o.p 0 0 } u' W') => lm_set h' o3 (j := 1) (by decide) (by show (1 : Int) < o.s; rw [hs]; decide) 0)
  have HS3 := Lib.hid (fun (W' : World) (u' : Int) (h' : Lm Kx S { m1 with O := turnO m1.O o.p fun q => { q with k := 10, a := number }, V := vset (vset m1.V o.p 0 0) o.p 1 0 } u' W') => wlink_any h' o3 hs 0)
  have hla : m1.la = 0 ∨ ∃ q, q ∈ (turnO m1.O o.p fun q => { q with k := 10, a := number }) ∧ q.p = m1.la ∧ q.s = 4 := by
    rcases ela with e | ⟨q, q1, q2, q3⟩
    · exact Or.inl e
    · obtain ⟨q', r1, r2, r3⟩ := turnO_keeps (p := o.p) (f := fun q => { q with k := 10, a := number }) (fun _ => ⟨rfl, rfl⟩) q1
      exact Or.inr ⟨q', r1, r2.trans q2, r3.trans q3⟩
  have ew : IntKind.i64.wrap (m1.cn + 1) = m1.cn + 1 := by rw [IntKind.wrap_i64]; omega
  clear o3 e0 ela o2
  go_enter Try.func40, Try.ntmps40
  go_wp2_with fail
  refine HL.out.mono ?_
  rintro e w2 ⟨rfl, u2, h2, hb2, hu2⟩
  have c0 := h2.a3.1.h
  have H2 := Lib.hid (And.intro h2 (And.intro hb2 hu2))
  clear h2 hb2 hu2 HL h
  go_wp2_with fail
  refine (HB.out w2 u2 H2.out.1).mono ?_
  rintro e w3 ⟨rfl, u3, h3, hb3, hu3⟩
  replace c0 := h3.a3.1.h
  have H3 := Lib.hid (And.intro h3 (And.intro (H2.out.2.1.trans hb3) (H2.out.2.2.trans hu3)))
  clear h3 hb3 hu3 HB H2
  go_wp2_with fail
  refine (HS1.out w3 u3 H3.out.1).mono ?_
  rintro e w4 ⟨rfl, u4, h4, hb4, hu4⟩
  replace c0 := h4.a3.1.h
  have H4 := Lib.hid (And.intro h4 (And.intro (H3.out.2.1.trans hb4) (H3.out.2.2.trans hu4)))
  clear h4 hb4 hu4 HS1 H3
  go_wp2_with fail
  refine (HS2.out w4 u4 H4.out.1).mono ?_
  rintro e w5 ⟨rfl, u5, h5, hb5, hu5⟩
  replace c0 := h5.a3.1.h
  have H5 := Lib.hid (And.intro h5 (And.intro (H4.out.2.1.trans hb5) (H4.out.2.2.trans hu5)))
  clear h5 hb5 hu5 HS2 H4
  go_wp2_with fail
  refine (HS3.out w5 u5 H5.out.1).mono ?_
  rintro e w6 ⟨rfl, u6, h6, hb6, hu6⟩
  have c6 := h6.a3.1.la
  have c5 := h6.a3.1.qu
  have z5 := h6.a3.1.fz 5
  have z6 := h6.a3.1.fz 6
  have z7 := h6.a3.1.fz 7
  have c7 := h6.a3.1.cn
  simp only at c5 c6 c7
  have H6 := Lib.hid (And.intro h6 (And.intro (H5.out.2.1.trans hb6) (H5.out.2.2.trans hu6)))
  clear h6 hb6 hu6 HS3 H5 c0
  by_cases e1 : m1.la = 0
  · have e2 : (m1.la == 0) = true := by simpa using e1
    have h7 := H6.out.1.qu o.p
    have h8 := h7.1.la o.p
    have h9 := h8.1.cn (m1.cn + 1)
    have H9 := Lib.hid (And.intro h9.1 ((h7.2.trans h8.2).trans h9.2))
    clear h7 h8 h9
    go_wp2_with fail
    refine bodyPost_end (v := .tuple #[]) (by simp [results, Try.results40, go_sem]) rfl ?_
    refine ⟨rfl, u6, ?_, H6.out.2.1.trans H9.out.2, H6.out.2.2.mono (by decide)⟩
    have := H9.out.1
    unfold tombed buryV
    rw [if_pos e1, if_pos e1]
    exact this
  · have e2 : (m1.la == 0) = false := by simpa using e1
    obtain ⟨q, q1, q2, q3⟩ := hla.resolve_left e1
    have HK := Lib.hid (wlink_any H6.out.1 q1 q3 o.p)
    rw [q2] at HK
    clear hla q1 q3
    go_wp2_with fail
    refine HK.out.mono ?_
    rintro e w7 ⟨rfl, u7, h7, hb7, hu7⟩
    replace c6 := h7.a3.1.la
    replace c7 := h7.a3.1.cn
    replace z6 := h7.a3.1.fz 6
    replace z7 := h7.a3.1.fz 7
    simp only at c6 c7
    have h8 := h7.la o.p
    have h9 := h8.1.cn (m1.cn + 1)
    have H9 := Lib.hid (And.intro h9.1 (And.intro ((H6.out.2.1.trans hb7).trans (h8.2.trans h9.2)) (H6.out.2.2.trans hu7)))
    clear h7 h8 h9 hb7 hu7 HK c5 z5
    go_wp2_with fail
    refine bodyPost_end (v := .tuple #[]) (by simp [results, Try.results40, go_sem]) rfl ?_
    refine ⟨rfl, u7, ?_, H9.out.2.1, H9.out.2.2⟩
    have := H9.out.1
    unfold tombed buryV
    rw [if_neg e1, if_neg e1]
    exact this
end
end Go.Proofs.Ythliahaopelooaa
/- The table of weak pointers: Step. -/
namespace Go.Proofs.Ythliahaopelooaa
open Go.RowKit
section
variable {Kx : Nat → Prop} {S : LSp} {m : LM} {u : Int} {W : World}
set_option maxHeartbeats 1000000 in
set_option maxRecDepth 100000 in
theorem wstep_none (h : Lm Kx S m u W) (hn : m.nx = 0) : Calls Try.prog 15 #[.pointer (some ⟨S.tb, 0, none⟩)] W (Aft Kx S m u 0 (.tuple #[.int .i64 0, .bool false, .bool false]) W) := by
  have c4 := h.a3.1.nx
  rw [hn] at c4
  have H := Lib.hid h
  clear h hn
  go_enter Try.func15, Try.ntmps15
  go_wp2_with fail
  refine bodyPost_ret (v := .tuple #[.int .i64 0, .bool false, .bool false]) (by simp [results, Try.results15, go_sem]) rfl ?_
  exact ⟨rfl, u, H.out, Kp.refl _ _, Us.refl u⟩
theorem Tbl.walk {row queue : List Int} (ht : Tbl m row queue) (v : Int) : Tbl { m with nx := v } row queue := ht.other ⟨rfl, rfl, rfl, rfl, rfl, rfl⟩ (fun _ _ => rfl) (fun o ho => ⟨o, ho, rfl, rfl⟩)
set_option maxHeartbeats 8000000 in
set_option maxRecDepth 100000 in
theorem wstep_some (h : Lm Kx S m u W) {pre suf queue : List Int} {o c : Ob} (ho : o ∈ m.O) (hk : o.k = 9) (hs : o.s = 4) (ht : Tbl m (pre ++ o.p :: suf) queue) (hn : m.nx = o.p) (hl : m.dom.length < 80000) (hc : m.cn < 100000) (hc0 : 0 ≤ m.cn) (hcO : c ∈ m.O) (hkey : m.V o.p 0 = c.p) :
    Calls Try.prog 15 #[.pointer (some ⟨S.tb, 0, none⟩)] W fun e w' =>
      (c.m = m.par → Aft Kx S { m with nx := suf.headD 0 } u 6 (.tuple #[.int .i64 o.a, .bool false, .bool true]) W e w') ∧
      (c.m ≠ m.par → Aft Kx S (tombed (left { m with nx := suf.headD 0 } o.p (pre.getLastD 0) (suf.headD 0)) o.p o.a) u 20 (.tuple #[.int .i64 o.a, .bool true, .bool true]) W e w') := by
  have hpp := lm_pos h ho
  have c4 := h.a3.1.nx
  rw [hn] at c4
  have hB := wbehind_any h ho hs
  rw [ht.ch.at] at hB
  have HBh := Lib.hid hB
  have hne : ({ m with nx := suf.headD 0 } : LM).nx ≠ o.p := by
    show suf.headD 0 ≠ o.p
    intro e
    cases suf with
    | nil => simp at e; omega
    | cons s l =>
      simp only [List.headD_cons] at e
      have h1 := nodup_mid (List.nodup_append.1 ht.nd).1
      refine (List.nodup_cons.1 h1).1 ?_
      rw [e]
      simp
  have ht1 := ht.walk (suf.headD 0)
  have ho1 : o ∈ ({ m with nx := suf.headD 0 } : LM).O := ho
  have hc1 : c ∈ ({ m with nx := suf.headD 0 } : LM).O := hcO
  have HC := Lib.hid (fun (K' : Nat → Prop) (W' : World) (u' : Int) (h' : Lm K' S { m with nx := suf.headD 0 } u' W') => lm_cell h' ho1)
  have HM := Lib.hid (fun (K' : Nat → Prop) (W' : World) (u' : Int) (h' : Lm K' S { m with nx := suf.headD 0 } u' W') => wmarked_any h' ho1 hs hc1 hkey)
  have HBu := Lib.hid (fun (K' : Nat → Prop) (W' : World) (u' : Int) (h' : Lm K' S { m with nx := suf.headD 0 } u' W') => wbury_any h' ho1 hs ht1 hne hl hc hc0 (number := o.a) hpp.2.2.2.2.1)
  have hr : decide (o.k = 9 ∧ o.s = 4) = true := decide_eq_true ⟨hk, hs⟩
  have HP := Lib.hid (fun W' => pointer_any o.k o.s o.a o.m W')
  rw [hr] at HP
  have hp0 : (o.p == 0) = false := by
    have : o.p ≠ 0 := by omega
    simpa using this
  have hnxx := fun (W' : World) (u' : Int) (h' : Lm Kx S m u' W') => h'.nx (suf.headD 0)
  have HN := Lib.hid hnxx
  have hmm : ({ m with nx := suf.headD 0 } : LM).par = m.par := rfl
  rw [hmm] at HM
  clear h ho hk hs ht hn hl hc hc0 hcO hkey hpp hB hne ht1 ho1 hc1 hr hnxx hmm
  generalize left { m with nx := suf.headD 0 } o.p (pre.getLastD 0) (suf.headD 0) = ml at *
  generalize hm3 : tombed ml o.p o.a = m3 at *
  obtain ⟨b, hb⟩ : ∃ b, b = suf.headD 0 := ⟨_, rfl⟩
  rw [← hb] at HBh HC HM HBu HN ⊢
  clear hm3 hb
  generalize hm1 : ({ m with nx := b } : LM) = m1 at *
  clear hm1
  generalize hdm : decide (c.m = m.par) = dm at *
  generalize o.p = p at *
  generalize o.k = ok at *
  generalize o.s = os at *
  generalize o.a = oa at *
  generalize o.m = om at *
  go_enter Try.func15, Try.ntmps15
  go_wp2_with fail
  refine HBh.out.mono ?_
  rintro e w2 ⟨rfl, u2, h2, hb2, hu2⟩
  have z4 := h2.a3.1.fz 4
  have d4 := h2.a3.1.nx
  have h3 := HN.out w2 u2 h2
  have c0 := h3.1.a3.1.h
  have H3 := Lib.hid (And.intro h3.1 (And.intro (hb2.trans h3.2) hu2))
  clear h2 hb2 hu2 h3 HBh c4 HN
  go_upto_region 5 with fail
  generalize (w2.setCell ⟨S.tb, 4, none⟩ (.int .i64 b)) = w3 at *
  go_wp2_with fail
  refine (HC.out _ w3 u2 H3.out.1).mono ?_
  rintro e w4 ⟨rfl, u4, h4, hb4, hu4⟩
  have hx := (Below.refl w4.heap.size w4).alloc (Nat.le_refl _) (.cells #[.int .i64 ok, .int .i64 os, .int .i64 oa, .int .i64 om] 46)
  obtain ⟨b0, b1, b2, b3⟩ := box_cells w4 (.int .i64 ok) (.int .i64 os) (.int .i64 oa) (.int .i64 om) 46
  have h5 := h4.own hx (q := w4.heap.size) (Nat.le_refl _) (by simp)
  have H5 := Lib.hid (And.intro h5 (And.intro ((H3.out.2.1.trans hb4).trans (h4.later hx).2) (H3.out.2.2.trans hu4)))
  clear h4 hb4 hu4 h5 hx H3 HC c0
  go_upto_region 6 with fail
  generalize (w4.alloc (.cells #[.int .i64 ok, .int .i64 os, .int .i64 oa, .int .i64 om] 46)) = w5 at *
  generalize w4.heap.size = q at *
  go_wp2_with fail
  refine (HP.out w5).mono ?_
  rintro e w6 ⟨rfl, hb6⟩
  have h6 := H5.out.1.later hb6
  replace b2 := later' hb6 b2
  have H6 := Lib.hid (And.intro h6.1 (And.intro (H5.out.2.1.trans (h6.2.mono fun _ h => Or.inl h)) H5.out.2.2))
  clear h6 hb6 H5 HP b0 b1 b3
  go_wp2_with fail
  refine (HM.out _ w6 u4 H6.out.1).mono ?_
  rintro e w7 ⟨rfl, u7, h7, hb7, hu7⟩
  replace b2 := hb7.cell (Or.inr rfl) b2
  have H7 := Lib.hid (And.intro h7 (And.intro (H6.out.2.1.trans (hb7.mono fun _ h => Or.inl h)) (H6.out.2.2.trans hu7)))
  clear h7 hb7 hu7 H6 HM
  cases dm with
  | true =>
    go_wp2_with fail
    refine bodyPost_ret (v := .tuple #[.int .i64 oa, .bool false, .bool true]) (by simp [results, Try.results15, go_sem]) rfl ?_
    exact ⟨fun _ => ⟨rfl, u7, H7.out.1.less fun _ h => Or.inl h, H7.out.2.1, H7.out.2.2⟩, fun hne => absurd (of_decide_eq_true hdm) hne⟩
  | false =>
    go_wp2_with fail
    refine (HBu.out _ w7 u7 H7.out.1).mono ?_
    rintro e w8 ⟨rfl, u8, h8, hb8, hu8⟩
    replace b2 := hb8.cell (Or.inr rfl) b2
    have H8 := Lib.hid (And.intro h8 (And.intro (H7.out.2.1.trans (hb8.mono fun _ h => Or.inl h)) (H7.out.2.2.trans hu8)))
    clear h8 hb8 hu8 H7 HBu
    go_wp2_with fail
    refine bodyPost_ret (v := .tuple #[.int .i64 oa, .bool true, .bool true]) (by simp [results, Try.results15, go_sem]) rfl ?_
    exact ⟨fun he => absurd he (of_decide_eq_false hdm), fun _ => ⟨rfl, u8, H8.out.1.less fun _ h => Or.inl h, H8.out.2.1, H8.out.2.2⟩⟩
end
end Go.Proofs.Ythliahaopelooaa
