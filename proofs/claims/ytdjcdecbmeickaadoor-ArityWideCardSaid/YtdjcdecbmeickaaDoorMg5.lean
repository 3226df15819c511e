import Derived.Maps.OwnSet
import Derived.Maps.OwnOps
import Derived.Maps.Views
import Derived.Shelf.SlMaps.Clone
import Derived.Deep.AppendLies
import Derived.Test.YtdjcdecbmeickaaDoorMg2
import Derived.Test.YtdjcdecbmeickaaDoorMg4
namespace Go.Proofs.YtdjcdecbmeickaaDoor
set_option maxHeartbeats 64000000
set_option maxRecDepth 100000
open Go.RowKit Go.Lib
mutual
def wtE : Ex → Nat
  | .mk k _ _ _ ps ks bs al => (if k = 1 then 1 else 0) + ps.length + wtEs ks + wtBs bs + wtAs al
def wtEs : List Ex → Nat
  | [] => 0
  | e :: r => wtE e + wtEs r
def wtBs : List (Nm × List Nm × Ex) → Nat
  | [] => 0
  | (_, ps, e) :: r => (2 + ps.length + wtE e) + wtBs r
def wtAs : List (Int × Nm × Bool × Int × List Nm × Ex) → Nat
  | [] => 0
  | (_, _, _, _, ns, e) :: r => (1 + ns.length + wtE e) + wtAs r
end
abbrev nB (b : Bnd) : Nat := 1 + b.2.1.length + wtE b.2.2
abbrev nB2 (b : Bnd) : Nat := 2 + b.2.1.length + wtE b.2.2
abbrev nA (a : Alt) : Nat := 1 + a.2.2.2.2.1.length + wtE a.2.2.2.2.2
def sumN {α : Type} (f : α → Nat) : List α → Nat
  | [] => 0
  | a :: r => f a + sumN f r
theorem sumN_app {α : Type} (f : α → Nat) : ∀ (a b : List α), sumN f (a ++ b) = sumN f a + sumN f b
  | [], b => by simp [sumN]
  | x :: a, b => by simp only [List.cons_append, sumN, sumN_app f a b]; omega
theorem sumN_mem {α : Type} (f : α → Nat) : ∀ {l : List α} {x : α}, x ∈ l → f x ≤ sumN f l
  | y :: r, x, h => by
    rcases List.mem_cons.1 h with rfl | h
    · simp only [sumN]; omega
    · have := sumN_mem f h
      simp only [sumN]; omega
theorem sumN_len {α : Type} (f : α → Nat) (h : ∀ a, 1 ≤ f a) : ∀ (l : List α), l.length ≤ sumN f l
  | [] => Nat.zero_le _
  | x :: r => by
    have := sumN_len f h r
    have := h x
    simp only [sumN, List.length_cons]; omega
theorem sumN_nB2 : ∀ (l : List Bnd), sumN nB2 l = l.length + sumN nB l
  | [] => rfl
  | b :: r => by
    have h := sumN_nB2 r
    simp only [sumN, List.length_cons, h, nB, nB2]
    omega
theorem wtEs_sum : ∀ (l : List Ex), wtEs l = sumN wtE l
  | [] => by unfold wtEs sumN; rfl
  | e :: r => by unfold wtEs sumN; rw [wtEs_sum r]
theorem wtBs_sum : ∀ (l : List Bnd), wtBs l = sumN nB2 l
  | [] => by unfold wtBs sumN; rfl
  | (n, ps, e) :: r => by unfold wtBs sumN; rw [wtBs_sum r]
theorem wtAs_sum : ∀ (l : List Alt), wtAs l = sumN nA l
  | [] => by unfold wtAs sumN; rfl
  | (k, n, f, x, ns, e) :: r => by unfold wtAs sumN; rw [wtAs_sum r]
theorem wtE_mk (k : Int) (n : Nm) (f : Bool) (x : Int) (ps : List Nm) (ks : List Ex) (bs : List Bnd) (al : List Alt) : wtE (.mk k n f x ps ks bs al) = (if k = 1 then 1 else 0) + ps.length + sumN wtE ks + sumN nB2 bs + sumN nA al := by
  conv => lhs; unfold wtE
  rw [wtEs_sum, wtBs_sum, wtAs_sum]
def Cw {α : Type} (f : α → Nat) (m : Nat) : Out α → Prop
  | .ok a _ r => f a + r.length ≤ m
  | .bad _ _ => True
theorem Cw.bind {α β : Type} {f : α → Nat} {g : β → Nat} {m m' : Nat} {o : Out α} {k : α → Int → List Tok → Out β} (h : Cw f m o) (hk : ∀ a l r, f a + r.length ≤ m → Cw g m' (k a l r)) : Cw g m' (o.bind k) := by
  cases o with
  | ok a l r => exact hk a l r h
  | bad e l => trivial
theorem refuse_c {α : Type} (f : α → Nat) (m : Nat) (e l : Int) (r : List Tok) : Cw f m (refuseO e l r) := by cases r <;> trivial
theorem take_c (l : Int) (r : List Tok) : Cw (fun _ => 1) r.length (takeO l r) := by
  cases r with
  | nil => trivial
  | cons y r => show 1 + r.length ≤ r.length + 1; omega
theorem want_c (s : Sh) (l : Int) (r : List Tok) : Cw (fun _ => 1) r.length (wantO s l r) := by
  unfold wantO
  split
  · exact take_c _ _
  · exact refuse_c _ _ _ _ _
theorem names_c : ∀ (r : List Tok) (l : Int) (acc : List Nm), (namesO l r acc).1.length + (namesO l r acc).2.2.length ≤ acc.length + r.length
  | [], _, _ => Nat.le_refl _
  | x :: r, l, acc => by
    unfold namesO
    split
    · have := names_c r x.2 (acc ++ [x.1.t])
      rw [List.length_append] at this
      simp only [List.length_cons, List.length_nil] at this ⊢
      omega
    · exact Nat.le_refl _
abbrev CwP {α : Type} (f : α → Nat) (p : Par α) : Prop := ∀ l r, Cw f r.length (p l r)
theorem bindO_c {ex : Par Ex} (hx : CwP wtE ex) : CwP nB2 (bindO ex) := by
  intro l r
  unfold bindO
  refine (want_c _ _ _).bind fun a l1 r1 h1 => ?_
  have hn := names_c r1 l1 []
  refine (want_c _ _ _).bind fun b l2 r2 h2 => ?_
  refine (hx _ _).bind fun c l3 r3 h3 => ?_
  show 2 + (namesO l1 r1 []).1.length + wtE c + r3.length ≤ r.length
  simp only [List.length_nil] at hn
  omega
theorem moreO_c {α : Type} {f : α → Nat} {item : Par α} (hx : CwP f item) : ∀ n (acc : List α) (l : Int) (r : List Tok), Cw (sumN f) (sumN f acc + r.length) (moreO item n acc l r)
  | 0, acc, l, r => by unfold moreO; exact Nat.le_refl _
  | n + 1, acc, l, r => by
    unfold moreO
    split
    · refine (take_c _ _).bind fun a l1 r1 h1 => ?_
      refine (hx _ _).bind fun c l2 r2 h2 => ?_
      have h := moreO_c hx n (acc ++ [c]) l2 r2
      have e : sumN f (acc ++ [c]) = sumN f acc + f c := by rw [sumN_app]; simp [sumN]
      rw [e] at h
      cases ho : moreO item n (acc ++ [c]) l2 r2 with
      | bad e l => trivial
      | ok a l3 r3 =>
        rw [ho] at h
        show sumN f a + r3.length ≤ sumN f acc + r.length
        have h : sumN f a + r3.length ≤ sumN f acc + f c + r2.length := h
        omega
    · exact Nat.le_refl _
theorem someO_c {α : Type} {f : α → Nat} {item : Par α} (hx : CwP f item) : CwP (sumN f) (someO item) := by
  intro l r
  unfold someO
  refine (hx _ _).bind fun c l1 r1 h1 => ?_
  have h := moreO_c hx (r1.length + 1) [c] l1 r1
  have e : sumN f [c] = f c := by simp [sumN]
  rw [e] at h
  cases ho : moreO item (r1.length + 1) [c] l1 r1 with
  | bad e l => trivial
  | ok a l3 r3 =>
    rw [ho] at h
    have h : sumN f a + r3.length ≤ f c + r1.length := h
    show sumN f a + r3.length ≤ r.length
    omega
theorem innerO_c {ex : Par Ex} (hx : CwP wtE ex) : CwP wtE (innerO ex) := by
  intro l r
  unfold innerO
  refine (want_c _ _ _).bind fun a l1 r1 h1 => ?_
  refine (hx _ _).bind fun c l2 r2 h2 => ?_
  refine (want_c _ _ _).bind fun a l3 r3 h3 => ?_
  show wtE c + r3.length ≤ r.length
  omega
theorem leaf_wt (k : Int) (n : Nm) : wtE (.leaf k n) ≤ 1 := by
  show wtE (.mk k n false 0 [] [] [] []) ≤ 1
  rw [wtE_mk]
  simp only [sumN, List.length_nil]
  split <;> omega
theorem num_wt (f : Bool) (x : Int) : wtE (.num f x) ≤ 1 := by
  show wtE (.mk 3 [] f x [] [] [] []) ≤ 1
  rw [wtE_mk]
  simp only [sumN, List.length_nil]
  split <;> omega
theorem atomO_c {ex : Par Ex} (hx : CwP wtE ex) : CwP wtE (atomO ex) := by
  intro l r
  have hl : ∀ k, Cw wtE r.length ((takeO l r).bind fun t l r => .ok (.leaf k t.1.t) l r) := fun k => (take_c _ _).bind fun a l1 r1 h1 => by
    have := leaf_wt k a.1.t
    show wtE (.leaf k a.1.t) + r1.length ≤ r.length
    omega
  unfold atomO
  split
  · exact hl 1
  split
  · exact hl 2
  split
  · exact (take_c _ _).bind fun a l1 r1 h1 => by
      have := num_wt a.1.f a.1.x
      show wtE (.num a.1.f a.1.x) + r1.length ≤ r.length
      omega
  split
  · exact hl 5
  split
  · exact innerO_c hx l r
  · exact refuse_c _ _ _ _ _
theorem atomsO_c {ex : Par Ex} (hx : CwP wtE ex) : ∀ n (acc : List Ex) (l : Int) (r : List Tok), Cw (sumN wtE) (sumN wtE acc + r.length) (atomsO ex n acc l r)
  | 0, acc, l, r => by unfold atomsO; exact Nat.le_refl _
  | n + 1, acc, l, r => by
    unfold atomsO
    split
    · refine (atomO_c hx _ _).bind fun c l2 r2 h2 => ?_
      have h := atomsO_c hx n (acc ++ [c]) l2 r2
      have e : sumN wtE (acc ++ [c]) = sumN wtE acc + wtE c := by rw [sumN_app]; simp [sumN]
      rw [e] at h
      cases ho : atomsO ex n (acc ++ [c]) l2 r2 with
      | bad e l => trivial
      | ok a l3 r3 =>
        rw [ho] at h
        have h : sumN wtE a + r3.length ≤ sumN wtE acc + wtE c + r2.length := h
        show sumN wtE a + r3.length ≤ sumN wtE acc + r.length
        omega
    · exact Nat.le_refl _
theorem withKids_wt (a : Ex) (ks : List Ex) : wtE (a.withKids ks) ≤ wtE a + sumN wtE ks := by
  obtain ⟨k, n, f, x, ps, k0, bs, al⟩ := a
  show wtE (.mk k n f x ps ks bs al) ≤ _
  rw [wtE_mk, wtE_mk]
  omega
theorem rowE_wt (b : Bool) (a : Ex) (ks : List Ex) : wtE (rowE b a ks) ≤ wtE a + sumN wtE ks := by
  unfold rowE
  split
  · exact withKids_wt a ks
  split
  · omega
  · rw [wtE_mk]
    simp only [sumN, List.length_nil]
    split <;> omega
theorem rowO_c {ex : Par Ex} (hx : CwP wtE ex) : CwP wtE (rowO ex) := by
  intro l r
  unfold rowO
  refine (atomO_c hx _ _).bind fun c l1 r1 h1 => ?_
  refine (atomsO_c hx _ [] _ _).bind fun d l2 r2 h2 => ?_
  have := rowE_wt (decide (shapeL r = sCon ∨ shapeL r = sBack)) c d
  show wtE (rowE _ c d) + r2.length ≤ r.length
  simp only [sumN] at h2
  omega
theorem rowsO_c {ex : Par Ex} (hx : CwP wtE ex) : CwP wtE (rowsO ex) := by
  intro l r
  unfold rowsO
  refine (rowO_c hx _ _).bind fun c l1 r1 h1 => ?_
  split
  · refine (take_c _ _).bind fun a l2 r2 h2 => ?_
    refine (rowO_c hx _ _).bind fun d l3 r3 h3 => ?_
    show wtE (.mk 5 a.1.t false 0 [] [c, d] [] []) + r3.length ≤ r.length
    rw [wtE_mk]
    simp only [sumN, List.length_nil]
    rw [if_neg (by omega)]
    omega
  · exact h1
theorem letO_c {ex : Par Ex} (hx : CwP wtE ex) : CwP wtE (letO ex) := by
  intro l r
  unfold letO
  refine (want_c _ _ _).bind fun a l1 r1 h1 => ?_
  refine (someO_c (bindO_c hx) _ _).bind fun c l2 r2 h2 => ?_
  refine (want_c _ _ _).bind fun b l3 r3 h3 => ?_
  refine (hx _ _).bind fun d l4 r4 h4 => ?_
  show wtE (.mk 6 [] false 0 [] [d] c []) + r4.length ≤ r.length
  rw [wtE_mk]
  simp only [sumN, List.length_nil]
  rw [if_neg (by omega)]
  omega
theorem altO_c {ex : Par Ex} (hx : CwP wtE ex) : CwP nA (altO ex) := by
  intro l r
  unfold altO
  split
  · refine (take_c _ _).bind fun a l1 r1 h1 => ?_
    have hn := names_c r1 l1 []
    refine (want_c _ _ _).bind fun b l2 r2 h2 => ?_
    refine (hx _ _).bind fun c l3 r3 h3 => ?_
    show 1 + (namesO l1 r1 []).1.length + wtE c + r3.length ≤ r.length
    simp only [List.length_nil] at hn
    omega
  split
  · refine (take_c _ _).bind fun a l1 r1 h1 => ?_
    refine (want_c _ _ _).bind fun b l2 r2 h2 => ?_
    refine (hx _ _).bind fun c l3 r3 h3 => ?_
    show 1 + 0 + wtE c + r3.length ≤ r.length
    omega
  · refine (want_c _ _ _).bind fun a l1 r1 h1 => ?_
    refine (want_c _ _ _).bind fun b l2 r2 h2 => ?_
    refine (hx _ _).bind fun c l3 r3 h3 => ?_
    show 1 + 0 + wtE c + r3.length ≤ r.length
    omega
theorem caseO_c {ex : Par Ex} (hx : CwP wtE ex) : CwP wtE (caseO ex) := by
  intro l r
  unfold caseO
  refine (want_c _ _ _).bind fun a l1 r1 h1 => ?_
  refine (hx _ _).bind fun c l2 r2 h2 => ?_
  refine (want_c _ _ _).bind fun a l3 r3 h3 => ?_
  refine (want_c _ _ _).bind fun a l4 r4 h4 => ?_
  split
  · refine (want_c _ _ _).bind fun a l5 r5 h5 => ?_
    show wtE (.mk 7 [] false 0 [] [c] [] []) + r5.length ≤ r.length
    rw [wtE_mk]
    simp only [sumN, List.length_nil]
    rw [if_neg (by omega)]
    omega
  · refine (someO_c (altO_c hx) _ _).bind fun d l5 r5 h5 => ?_
    refine (want_c _ _ _).bind fun a l6 r6 h6 => ?_
    show wtE (.mk 7 [] false 0 [] [c] [] d) + r6.length ≤ r.length
    rw [wtE_mk]
    simp only [sumN, List.length_nil]
    rw [if_neg (by omega)]
    omega
theorem lamO_c {ex : Par Ex} (hx : CwP wtE ex) : CwP wtE (lamO ex) := by
  intro l r
  unfold lamO
  refine (want_c _ _ _).bind fun a l1 r1 h1 => ?_
  have hn := names_c r1 l1 []
  split
  · refine (want_c _ _ _).bind fun b l2 r2 h2 => ?_
    refine (hx _ _).bind fun c l3 r3 h3 => ?_
    show wtE (.mk 8 [] false 0 (namesO l1 r1 []).1 [c] [] []) + r3.length ≤ r.length
    rw [wtE_mk]
    simp only [sumN, List.length_nil] at hn ⊢
    rw [if_neg (by omega)]
    omega
  · exact refuse_c _ _ _ _ _
theorem exprO_c : ∀ n d, CwP wtE (exprO n d)
  | 0, _ => fun _ _ => trivial
  | n + 1, d => by
    have hx := exprO_c n (d + 1)
    intro l r
    unfold exprO
    split
    · split
      · exact refuse_c _ _ _ _ _
      split
      · exact letO_c hx _ _
      split
      · exact caseO_c hx _ _
      split
      · exact lamO_c hx _ _
      · exact rowsO_c hx _ _
    · exact refuse_c _ _ _ _ _
theorem declsO_c : ∀ n (acc : List (Nm × Int)) (l : Int) (r : List Tok), Cw List.length (acc.length + r.length) (declsO n acc l r)
  | 0, acc, l, r => by unfold declsO; exact Nat.le_refl _
  | n + 1, acc, l, r => by
    unfold declsO
    split
    · refine (take_c _ _).bind fun a l1 r1 h1 => ?_
      split
      · refine (take_c _ _).bind fun b l2 r2 h2 => ?_
        split
        · exact refuse_c _ _ _ _ _
        · have h := declsO_c n (acc ++ [(a.1.t, b.1.x)]) l2 r2
          cases ho : declsO n (acc ++ [(a.1.t, b.1.x)]) l2 r2 with
          | bad e l => trivial
          | ok a3 l3 r3 =>
            rw [ho] at h
            have h : a3.length + r3.length ≤ (acc ++ [(a.1.t, b.1.x)]).length + r2.length := h
            rw [List.length_append] at h
            simp only [List.length_cons, List.length_nil] at h
            show a3.length + r3.length ≤ acc.length + r.length
            omega
      · exact refuse_c _ _ _ _ _
    · exact Nat.le_refl _
def wtM (m : Md) : Nat := m.1.length + sumN nB2 m.2
theorem moduleO_c : ∀ n cs bs (l : Int) (r : List Tok), Cw wtM (wtM (cs, bs) + r.length) (moduleO n cs bs l r)
  | 0, cs, bs, l, r => by unfold moduleO; exact Nat.le_refl _
  | n + 1, cs, bs, l, r => by
    unfold moduleO
    split
    · exact Nat.le_refl _
    split
    · refine (take_c _ _).bind fun a l1 r1 h1 => ?_
      refine (declsO_c _ [] _ _).bind fun d l2 r2 h2 => ?_
      refine (want_c _ _ _).bind fun b l3 r3 h3 => ?_
      have h := moduleO_c n (cs ++ d) bs l3 r3
      cases ho : moduleO n (cs ++ d) bs l3 r3 with
      | bad e l => trivial
      | ok m l4 r4 =>
        rw [ho] at h
        have h : wtM m + r4.length ≤ ((cs ++ d).length + sumN nB2 bs) + r3.length := h
        rw [List.length_append] at h
        simp only [List.length_nil] at h2
        show wtM m + r4.length ≤ (cs.length + sumN nB2 bs) + r.length
        omega
    · refine (bindO_c (exprO_c _ _) _ _).bind fun d l2 r2 h2 => ?_
      refine (want_c _ _ _).bind fun b l3 r3 h3 => ?_
      have h := moduleO_c n cs (bs ++ [d]) l3 r3
      cases ho : moduleO n cs (bs ++ [d]) l3 r3 with
      | bad e l => trivial
      | ok m l4 r4 =>
        rw [ho] at h
        have e : sumN nB2 (bs ++ [d]) = sumN nB2 bs + nB2 d := by rw [sumN_app]; simp [sumN]
        have h : wtM m + r4.length ≤ (cs.length + sumN nB2 (bs ++ [d])) + r3.length := h
        rw [e] at h
        show wtM m + r4.length ≤ (cs.length + sumN nB2 bs) + r.length
        omega
theorem parse_wt {T : List Tok} {m : Md} {l : Int} {r : List Tok} (h : parseO T = .ok m l r) : wtM m ≤ T.length := by
  have hw := moduleO_c (T.length + 1) [] [] 1 T
  rw [show moduleO (T.length + 1) [] [] 1 T = parseO T from rfl, h] at hw
  have hw : wtM m + r.length ≤ (0 + 0) + T.length := hw
  omega
def NSet (w : World) (b n : Nat) (dom : List Nm) : Prop :=
  ∃ D : DataW Unit, w.ownsMap Tryd.prog 9 (plainElem Tryd.prog 4) b n D ∧ ∀ x, D.atKey (.string x) (.lit (.bool false)) = .lit (.bool (decide (x ∈ dom)))
theorem nset_made (w : World) : NSet (w.alloc (.map #[] 0)) w.heap.size 0 [] := by
  refine ⟨_, World.ownsMap_made w _ _ _, fun x => ?_⟩
  simp
  rfl
theorem NSet.same {w w' : World} {b n : Nat} {dom : List Nm} (h : NSet w b n dom) (hk : w'.heap[b]? = w.heap[b]?) : NSet w' b n dom := by
  obtain ⟨D, ⟨es, c, hb, r⟩, h2⟩ := h
  exact ⟨D, ⟨es, c, hk.trans hb, r⟩, h2⟩
theorem NSet.lt {w : World} {b n : Nat} {dom : List Nm} (h : NSet w b n dom) : b < w.heap.size := by
  obtain ⟨D, h1, h2⟩ := h
  exact h1.lt
theorem NSet.later {w w' : World} {b n : Nat} {dom : List Nm} (h : NSet w b n dom) (hb : Below w.heap.size w w') : NSet w' b n dom := h.same (hb.block b h.lt)
theorem NSet.eq {w : World} {b n : Nat} {dom dom' : List Nm} (h : NSet w b n dom) (he : SetEq dom dom') : NSet w b n dom' := by
  obtain ⟨D, h1, h2⟩ := h
  exact ⟨D, h1, fun x => by rw [h2]; simp only [he x]⟩
theorem nzero_bool (w : World) : (zeroValue 4).run Tryd.prog w = .ok (.bool false) w := rfl
theorem nplain_bool_inv {P : Program} {e : TypeId} (he : P.underlying e = some .bool) {v : Value} {z : DataW Unit × List MemPlace} (h : plainElem P e v = some z) : ∃ a, v = .bool a ∧ z = (.lit (.bool a), []) := by
  unfold plainElem at h
  rw [he] at h
  cases v <;> simp at h
  subst h
  exact ⟨_, rfl, rfl⟩
theorem nkey_of (x : Nm) (hs : x.length ≤ 100000) : keyOf Tryd.prog 9 (.string (tx x)) = some (.string x) := by
  have h := WideMaps.keyOf_string_mk (P := Tryd.prog) Tryd.underlying9 (s := tx x) (by
    have : (tx x).size = x.length := by simp [tx, ByteArray.size]
    rw [this]; unfold maxLen; omega)
  rwa [tx_list] at h
theorem NSet.look {w : World} {b n : Nat} {dom : List Nm} (h : NSet w b n dom) (x : Nm) (hx : x.length ≤ 100000) :
    (Instr.lookup 103 (.map (some b)) (.string (tx x)) false).run Tryd.prog w = .ok (.bool (decide (x ∈ dom))) w := by
  obtain ⟨D, h1, h2⟩ := h
  obtain ⟨v, ps, hr, hv⟩ := h1.lookup (Maps.string_keyed Tryd.underlying9) Tryd.underlying103 (nzero_bool _) (plainElem_bool Tryd.underlying4 false) (nkey_of x hx)
  obtain ⟨a, rfl, ha⟩ := nplain_bool_inv Tryd.underlying4 hv
  rw [h2] at ha
  simp only [Prod.mk.injEq, DataW.lit.injEq, Lit.bool.injEq] at ha
  rw [← ha.1] at hr
  exact hr
theorem wp_nput {ops : Array Oper} {rest : List Oper} {o : Oper} {a : Act} {Q : Exit → Act → World → Prop} (w : World) (hg : o.guard = none) (m x v : Operand) (hop : o.op = Op.mapUpdate 103 m x v)
    (b n : Nat) (dom : List Nm) (hm : a.eval m = .map (some b)) (h : NSet w b n dom) (hn : n < 1000000) (k : Nm) (hx : a.eval x = .string (tx k)) (hv : a.eval v = .bool true) (hk : k.length ≤ 100000)
    (hK : ∀ w', NSet w' b (n + 1) (dom ++ [k]) → w.grownBy w' (some b) → wpList Tryd.prog ops Q rest (a.put o.dst undef) w') : wpList Tryd.prog ops Q (o :: rest) a w := by
  obtain ⟨D, h1, h2⟩ := h
  refine wpList_mapUpdate_own w hg m x v _ hop 9 4 (Maps.string_keyed Tryd.underlying9) Tryd.underlying103 _ b n D hm h1 (by unfold maxLen; omega) _ _ (.string k) hx hv (nkey_of k hk) (.lit (.bool true)) [] (plainElem_bool Tryd.underlying4 true) ?_
  intro w' h1' hg'
  refine hK w' ⟨_, h1', fun y => ?_⟩ hg'
  have hT := h1.tidy (Maps.string_keyed Tryd.underlying9)
  by_cases e : y = k
  · subst e
    rw [Maps.atKey_put_same hT.isMap (by trivial)]
    simp
  · rw [Maps.atKey_put_other (by simpa using e), h2]
    simp [e]
theorem clone_set (b n : Nat) (dom : List Nm) (w : World) (h : NSet w b n dom) : Calls Tryd.prog 74 #[.map (some b)] w fun e w' => e = .returned (.map (some w.heap.size)) ∧ NSet w' w.heap.size n dom ∧ Below w.heap.size w w' := by
  have hlt := h.lt
  obtain ⟨D, ⟨es, clock, hb, F, hs, hD⟩, h2⟩ := h
  have hq := fun w => run_eql_map_nil_sl (P := Tryd.prog) w 103 _ _ (some b) Tryd.underlying103
  have hB : Below w.heap.size w (w.alloc (.map es clock)) := (Below.refl _ w).alloc Nr (.map es clock)
  have HE := Hd (show NSet (w.alloc (.map es clock)) w.heap.size n dom ∧ Below w.heap.size w (w.alloc (.map es clock)) from ⟨⟨D, ⟨es, clock, (MapKept.heap_alloc w _).1, F, hs, hD⟩, h2⟩, hB⟩)
  clear F hs hD h2 hB
  go_enter Tryd.func74, Tryd.ntmps74
  go_wp2_with fail
  rw [run_callFunc_extern Tryd.func89 (by kernel_rfl) (by kernel_rfl) (by kernel_rfl) (e := Extern.MapsClone.clone) (by kernel_rfl), run_maps_clone_sl w 103 hb]
  simp only [Result.andThen]
  rw [Oper.upon_value]
  go_wp2_with fail
  rw [run_typeAssert_map_sl _ 103 20 _ _ _ Tryd.underlying103]
  simp only [Result.andThen]
  rw [Oper.upon_value]
  go_wp2_with fail
  go_ret
  exact ⟨rfl, HE.out.1, HE.out.2⟩
def vErr : Fo → Value
  | none => .nilIface
  | some (e, n) => .iface 59 (.agg #[.int .i64 e, .string (tx n)])
theorem repeated_any (w : World) : Calls Tryd.prog 73 #[] w fun e w' => e = .returned (.func (.func 88) #[] #[.pointer (some ⟨w.heap.size + 1, 0, none⟩)]) ∧ w' = ((w.alloc (.map #[] 0)).alloc (.cells #[.map (some w.heap.size)] 103)) := by
  have hmm := @run_makeMap Tryd.prog
  go_enter Tryd.func73, Tryd.ntmps73
  go_wp2_with fail
  go_ret
  exact ⟨rfl, rfl⟩
theorem rep_seen (k m n : Nat) (seen : List Nm) (x : Nm) (hx : x.length ≤ 100000) (w : World) (hk : w.cell? ⟨k, 0, none⟩ = some (.map (some m))) (hs : NSet w m n seen) (hin : x ∈ seen) : Calls Tryd.prog 88 #[.string (tx x), .pointer (some ⟨k, 0, none⟩)] w fun e w' => e = .returned (vErr (some (5, x))) ∧ Below w.heap.size w w' := by
  have hl := hs.look x hx
  rw [decide_eq_true hin] at hl
  go_enter Tryd.func88, Tryd.ntmps88
  go_wp2_with fail
  go_ret
  exact ⟨rfl, Below.refl _ _⟩
theorem rep_new (k m n : Nat) (hn : n < 1000000) (seen : List Nm) (x : Nm) (hx : x.length ≤ 100000) (w : World) (hk : w.cell? ⟨k, 0, none⟩ = some (.map (some m))) (hs : NSet w m n seen) (hin : x ∉ seen) : Calls Tryd.prog 88 #[.string (tx x), .pointer (some ⟨k, 0, none⟩)] w fun e w' => e = .returned (vErr none) ∧ NSet w' m (n + 1) (seen ++ [x]) ∧ w.grownBy w' (some m) := by
  have hl := hs.look x hx
  rw [decide_eq_false hin] at hl
  go_enter Tryd.func88, Tryd.ntmps88
  go_wp2_with (refine wp_nput _ rfl _ _ _ rfl m n seen rfl hs hn x rfl rfl hx ?_; intro w1 h1 g1)
  go_ret
  exact ⟨rfl, h1, g1⟩
theorem twiceL_pre (x : Nm) (b : List Nm) : ∀ (l seen : List Nm), twiceL seen l = some x → twiceL seen (l ++ b) = some x
  | [], _, h => by cases h
  | y :: r, seen, h => by
    show (if y ∈ seen then some y else twiceL (seen ++ [y]) (r ++ b)) = some x
    have h' : (if y ∈ seen then some y else twiceL (seen ++ [y]) r) = some x := h
    by_cases g : y ∈ seen
    · rw [if_pos g] at h' ⊢; exact h'
    · rw [if_neg g] at h' ⊢; exact twiceL_pre x b r _ h'
theorem twF_hit {a : List Nm} (b : List Nm) {x : Nm} (h : twF a = none) (hx : x ∈ a) : twF (a ++ x :: b) = some (5, x) := by
  have h1 : twF (a ++ [x]) = some (5, x) := by rw [twF_snoc, h, if_pos hx]; rfl
  unfold twF at h1 ⊢
  obtain ⟨y, h2, h3⟩ := Option.map_eq_some_iff.1 h1
  have h4 := twiceL_pre y b _ _ h2
  rw [List.append_assoc] at h4
  rw [show ([x] ++ b) = x :: b from rfl] at h4
  rw [h4]
  exact congrArg some h3
theorem first_rep (l : List Nm) (hn : l.length ≤ 100000) (hl : ∀ x, x ∈ l → x.length ≤ 100000) (k m : Nat) (a : Option Addr) (c : Nat) (K : Nat → Prop) (hK : ∀ g, K g → g ≠ m) (hkm : k ≠ m) (w : World) (hr : RowAt w K 9 1 (.slice a l.length c) l.length (namesV l)) (hk : w.cell? ⟨k, 0, none⟩ = some (.map (some m))) (hs : NSet w m 0 []) :
    Calls Tryd.prog 72 #[.slice a l.length c, .func (.func 88) #[] #[.pointer (some ⟨k, 0, none⟩)]] w fun e w' => e = .returned (vErr (twF l)) ∧ w.grownBy w' (some m) := by
  have HO := Hd hr
  have HS := Hd hs
  have HL := Hd hl
  have hmx := hr.cap
  unfold maxLen at hmx
  have hbox := hk
  clear hr hs hl hk
  go_enter Tryd.func72, Tryd.ntmps72
  go_wp2_with fail
  go_loopw [10] (fun s wr => ∃ j : Nat, j ≤ l.length ∧ s = .int .i64 j ∧ NSet wr m j (l.take j) ∧ w.grownBy wr (some m) ∧ twF (l.take j) = none) (fun s _ => l.length - (RowKit.intOf s).toNat)
  case atStart => exact ⟨0, Nat.zero_le _, rfl, by rw [List.take_zero]; exact HS.out, grown_of Br, by rw [List.take_zero]; rfl⟩
  case round =>
    obtain ⟨j, hj, rfl, hs1, hg, htw⟩ := hrel
    have HR := Hd (Ai hs1 (Ai hg htw))
    have HO2 := Hd (HO.out.past hg hK)
    have hb1 := hg.cell hbox (by simpa using hkm)
    clear hs1 hg htw
    by_cases gj : j < l.length
    · have gj' : (j : Int) < (l.length : Int) := by omega
      obtain ⟨g1, o1, ea1, k1, m1', -, ht1⟩ := HO2.out.at (by omega)
      subst ea1
      have p0 := ht1 j _ (namesV_get gj)
      have HT := Hd (show l.take (j + 1) = l.take j ++ [l[j]] from List.take_succ_eq_append_getElem gj)
      have hlx := HL.out l[j] (List.getElem_mem gj)
      have HD := Hd (show l = l.take j ++ l[j] :: l.drop (j + 1) by rw [← List.drop_eq_getElem_cons gj, List.take_append_drop])
      clear ht1
      generalize l[j] = tk at *
      have ej : IntKind.i64.wrap ((j : Int) + 1) = (j : Int) + 1 := by rw [IntKind.wrap_i64]; omega
      have b0 : (0 : Int) ≤ (j : Int) := by omega
      have eg := enters_of Tryd.func88 (by kernel_rfl) rfl
      by_cases g : tk ∈ l.take j
      · have HC := Hd (rep_seen k m j (l.take j) tk hlx wr hb1 HR.out.1 g)
        go_wp2_with fail
        refine HC.out.mono ?_
        rintro e w1 ⟨rfl, hb⟩
        have HB := Hd hb
        clear hb
        unfold vErr
        go_wp2_with fail
        go_ret
        have h := HD.out
        rw [h, twF_hit _ HR.out.2.2 g]
        exact ⟨rfl, Gt HR.out.2.1 (grown_of HB.out)⟩
      · have HC := Hd (rep_new k m j (by omega) (l.take j) tk hlx wr hb1 HR.out.1 g)
        go_wp2_with fail
        refine HC.out.mono ?_
        rintro e w1 ⟨rfl, hs2, hg2⟩
        have HB := Hd (Ai hs2 hg2)
        clear hs2 hg2
        unfold vErr
        go_wp2_with fail
        refine ⟨⟨j + 1, by omega, by go_num, by rw [HT.out]; exact HB.out.1, Gt HR.out.2.1 HB.out.2, ?_⟩, by simp [RowKit.intOf]; omega⟩
        rw [HT.out, twF_snoc, HR.out.2.2, if_neg g]
        rfl
    · obtain rfl : j = l.length := by omega
      go_wp2_with fail
      go_ret
      have h := HR.out.2.2
      rw [List.take_length] at h
      rw [h]
      exact ⟨rfl, HR.out.2.1⟩
def WithSaid (cnt : Nat) (dom l : List Nm) (e : Ending) (w' : World) : Prop :=
  match twF l with
  | some f => e = .returned (.tuple #[.map none, vErr (some f)])
  | none => ∃ b, e = .returned (.tuple #[.map (some b), .nilIface]) ∧ NSet w' b (cnt + l.length) (dom ++ l)
theorem RowAt.low {W W' : World} {K : Nat → Prop} {e : TypeId} {size : Nat} {v : Value} {n : Nat} {xs : List Value} (h : RowAt W K e size v n xs) (hb : Below W.heap.size W W') : RowAt W' (fun g => g < W.heap.size) e size v n xs :=
  h.move fun g _ lt => ⟨lt, hb.block g lt⟩
theorem below_of_new {w w1 w2 : World} {m : Nat} (hb : Below w.heap.size w w1) (hg : w1.grownBy w2 (some m)) (hm : w.heap.size ≤ m) : Below w.heap.size w w2 :=
  ⟨hg.os.trans hb.os, hg.tape.trans hb.tape, hg.output.trans hb.output, Nt hb.size hg.size, fun k hk => (hg.block k (Nat.lt_of_lt_of_le hk hb.size) (fun e => by have e' : k = m := Oi e; omega)).trans (hb.block k hk)⟩
theorem with_any (bm cnt : Nat) (dom l : List Nm) (hl : ∀ x, x ∈ l → x.length ≤ 100000) (hn : cnt + l.length ≤ 100000) (a : Option Addr) (c : Nat) (K : Nat → Prop) (w : World) (hs : NSet w bm cnt dom) (hr : RowAt w K 9 1 (.slice a l.length c) l.length (namesV l)) :
    Calls Tryd.prog 39 #[.map (some bm), .slice a l.length c] w fun e w' => WithSaid cnt dom l e w' ∧ Below w.heap.size w w' := by
  have HO := Hd hr
  have HS := Hd hs
  have HL := Hd hl
  have hmx := hr.cap
  unfold maxLen at hmx
  clear hr hs hl
  go_enter Tryd.func39, Tryd.ntmps39
  go_wp2_with fail
  refine (repeated_any w).mono ?_
  rintro e w1 ⟨rfl, hw1⟩
  have hb1 : Below w.heap.size w w1 := by
    rw [hw1]
    exact ((Below.refl w.heap.size w).alloc Nr _).alloc (by simp) _
  have hk1 : w1.cell? ⟨w.heap.size + 1, 0, none⟩ = some (.map (some w.heap.size)) := by rw [hw1]; simp
  have hm1 : NSet w1 w.heap.size 0 [] := by
    rw [hw1]
    exact (nset_made w).later (Br.alloc Nr _)
  have H1 := Hd (first_rep l (by omega) HL.out (w.heap.size + 1) w.heap.size a c (fun g => g < w.heap.size) (fun g hg => by omega) (by omega) w1 (HO.out.low hb1) hk1 hm1)
  have HB1 := Hd hb1
  clear hw1 hb1 hk1 hm1
  go_wp2_with fail
  refine H1.out.mono ?_
  rintro e w2 ⟨rfl, hg2⟩
  have HB2 := Hd (below_of_new HB1.out hg2 Nr)
  clear hg2 H1
  cases htw : twF l with
  | some f =>
    have HE := Hd htw
    obtain ⟨er, nm⟩ := f
    unfold vErr
    clear htw
    go_wp2_with fail
    go_ret2
    refine ⟨?_, HB2.out⟩
    unfold WithSaid
    rw [HE.out]
    rfl
  | none =>
    have HE := Hd htw
    clear htw
    unfold vErr
    have HC := Hd (clone_set bm cnt dom w2 (HS.out.later HB2.out))
    go_wp2_with fail
    refine HC.out.mono ?_
    rintro e w3 ⟨rfl, hs3, hb3⟩
    have hlt3 := hs3.lt
    have H3 := Hd (Ai hs3 hb3)
    have hz2 := HB2.out.size
    generalize hbq : w2.heap.size = B at *
    clear HC hs3 hb3
    go_wp2_with fail
    have HW3 := Hd (show Below w.heap.size w w3 from ⟨H3.out.2.os.trans HB2.out.os, H3.out.2.tape.trans HB2.out.tape, H3.out.2.output.trans HB2.out.output, by omega, fun k hk => (H3.out.2.block k (by omega)).trans (HB2.out.block k hk)⟩)
    clear hbq
    go_loopw [20] (fun s wr => ∃ j : Nat, j ≤ l.length ∧ s = .int .i64 j ∧ NSet wr B (cnt + j) (dom ++ l.take j) ∧ w3.grownBy wr (some B)) (fun s _ => l.length - (RowKit.intOf s).toNat)
    case atStart => exact ⟨0, Nat.zero_le _, rfl, by rw [List.take_zero, List.append_nil]; exact H3.out.1, grown_of Br⟩
    case round =>
      obtain ⟨j, hj, rfl, hs1, hg⟩ := hrel
      have HR := Hd (Ai hs1 (below_of_new HW3.out hg hz2))
      have HG := Hd hg
      clear hs1 hg
      by_cases gj : j < l.length
      · have gj' : (j : Int) < (l.length : Int) := by omega
        obtain ⟨g1, o1, ea1, k1, m1', -, ht1⟩ := (HO.out.low HR.out.2).at (by omega)
        subst ea1
        have p0 := ht1 j _ (namesV_get gj)
        have HT := Hd (show l.take (j + 1) = l.take j ++ [l[j]] from List.take_succ_eq_append_getElem gj)
        have hlx := HL.out l[j] (List.getElem_mem gj)
        clear ht1
        generalize l[j] = tk at *
        have ej : IntKind.i64.wrap ((j : Int) + 1) = (j : Int) + 1 := by rw [IntKind.wrap_i64]; omega
        have b0 : (0 : Int) ≤ (j : Int) := by omega
        go_wp2_with (refine wp_nput _ rfl _ _ _ rfl B (cnt + j) (dom ++ l.take j) rfl HR.out.1 (by omega) tk rfl rfl hlx ?_; intro w4 h4 g4)
        refine ⟨⟨j + 1, by omega, by go_num, ?_, Gt HG.out g4⟩, by simp [RowKit.intOf]; omega⟩
        rw [HT.out, ← List.append_assoc]
        exact h4
      · obtain rfl : j = l.length := by omega
        go_wp2_with fail
        go_ret2
        refine ⟨?_, HR.out.2⟩
        unfold WithSaid
        rw [HE.out]
        have h := HR.out.1
        rw [List.take_length] at h
        exact ⟨B, rfl, h⟩
theorem ExAt.form {W : World} {K : Nat → Prop} {x : Ex} {k n f u vp vk vb va : Value} (h : ExAt W K x [k, n, f, u, vp, vk, vb, va]) : ∃ k' nm f' u' ap np cp ak nk ck ab nb cb aa na ca, k = .int .i64 k' ∧ n = .string (tx nm) ∧ f = .bool f' ∧ u = .int .u64 u' ∧ vp = .slice ap np cp ∧ vk = .slice ak nk ck ∧ vb = .slice ab nb cb ∧ va = .slice aa na ca := by
  cases h with
  | mk k n f x ps ks bs al vp vk vb va xk xb xa hp hk hb ha tk tb ta =>
    obtain ⟨ap, cp, rfl⟩ := hp.sl
    obtain ⟨ak, ck, rfl⟩ := hk.sl
    obtain ⟨ab, cb, rfl⟩ := hb.sl
    obtain ⟨aa, ca, rfl⟩ := ha.sl
    exact ⟨k, n, f, x, ap, _, cp, ak, _, ck, ab, _, cb, aa, _, ca, rfl, rfl, rfl, rfl, rfl, rfl, rfl, rfl⟩
theorem ExsAt.cells {W : World} {K : Nat → Prop} {l : List Ex} {xs : List Value} (h : ExsAt W K l xs) (j : Nat) (hj : j < l.length) : ∃ k nm f u ap np cp ak nk ck ab nb cb aa na ca, ExAt W K l[j] [.int .i64 k, .string (tx nm), .bool f, .int .u64 u, .slice ap np cp, .slice ak nk ck, .slice ab nb cb, .slice aa na ca] ∧
    ∀ i v, [Value.int .i64 k, .string (tx nm), .bool f, .int .u64 u, .slice ap np cp, .slice ak nk ck, .slice ab nb cb, .slice aa na ca][i]? = some v → xs[j * 8 + i]? = some v := by
  obtain ⟨k, nm, f, u, vp, vk, vb, va, h1, z0, z1, z2, z3, z4, z5, z6, z7⟩ := h.at j hj
  obtain ⟨k', nm', f', u', ap, np, cp, ak, nk, ck, ab, nb, cb, aa, na, ca, e0, e1, e2, e3, rfl, rfl, rfl, rfl⟩ := h1.form
  cases e0; cases e1; cases e2; cases e3
  refine ⟨k, nm', f, u, ap, np, cp, ak, nk, ck, ab, nb, cb, aa, na, ca, h1, fun i v hi => ?_⟩
  match i, hi with
  | 0, hi => cases hi; exact z0
  | 1, hi => cases hi; exact z1
  | 2, hi => cases hi; exact z2
  | 3, hi => cases hi; exact z3
  | 4, hi => cases hi; exact z4
  | 5, hi => cases hi; exact z5
  | 6, hi => cases hi; exact z6
  | 7, hi => cases hi; exact z7
theorem BndsAt.cells {W : World} {K : Nat → Prop} {l : List Bnd} {xs : List Value} (h : BndsAt W K l xs) (j : Nat) (hj : j < l.length) : ∃ aq cq k nm f u ap np cp ak nk ck ab nb cb aa na ca, RowAt W K 9 1 (.slice aq l[j].2.1.length cq) l[j].2.1.length (namesV l[j].2.1) ∧ ExAt W K l[j].2.2 [.int .i64 k, .string (tx nm), .bool f, .int .u64 u, .slice ap np cp, .slice ak nk ck, .slice ab nb cb, .slice aa na ca] ∧
    ∀ i v, [Value.string (tx l[j].1), .slice aq l[j].2.1.length cq, .int .i64 k, .string (tx nm), .bool f, .int .u64 u, .slice ap np cp, .slice ak nk ck, .slice ab nb cb, .slice aa na ca][i]? = some v → xs[j * 10 + i]? = some v := by
  obtain ⟨vq, k, nm, f, u, vp, vk, vb, va, h0, h1, z0, z1, z2, z3, z4, z5, z6, z7, z8, z9⟩ := h.at j hj
  obtain ⟨k', nm', f', u', ap, np, cp, ak, nk, ck, ab, nb, cb, aa, na, ca, e0, e1, e2, e3, rfl, rfl, rfl, rfl⟩ := h1.form
  cases e0; cases e1; cases e2; cases e3
  obtain ⟨aq, cq, rfl⟩ := h0.sl
  refine ⟨aq, cq, k, nm', f, u, ap, np, cp, ak, nk, ck, ab, nb, cb, aa, na, ca, h0, h1, fun i v hi => ?_⟩
  match i, hi with
  | 0, hi => cases hi; exact z0
  | 1, hi => cases hi; exact z1
  | 2, hi => cases hi; exact z2
  | 3, hi => cases hi; exact z3
  | 4, hi => cases hi; exact z4
  | 5, hi => cases hi; exact z5
  | 6, hi => cases hi; exact z6
  | 7, hi => cases hi; exact z7
  | 8, hi => cases hi; exact z8
  | 9, hi => cases hi; exact z9
theorem AltsAt.cells {W : World} {K : Nat → Prop} {l : List Alt} {xs : List Value} (h : AltsAt W K l xs) (j : Nat) (hj : j < l.length) : ∃ aq cq k nm f u ap np cp ak nk ck ab nb cb aa na ca, RowAt W K 9 1 (.slice aq l[j].2.2.2.2.1.length cq) l[j].2.2.2.2.1.length (namesV l[j].2.2.2.2.1) ∧ ExAt W K l[j].2.2.2.2.2 [.int .i64 k, .string (tx nm), .bool f, .int .u64 u, .slice ap np cp, .slice ak nk ck, .slice ab nb cb, .slice aa na ca] ∧
    ∀ i v, [Value.int .i64 l[j].1, .string (tx l[j].2.1), .bool l[j].2.2.1, .int .u64 l[j].2.2.2.1, .slice aq l[j].2.2.2.2.1.length cq, .int .i64 k, .string (tx nm), .bool f, .int .u64 u, .slice ap np cp, .slice ak nk ck, .slice ab nb cb, .slice aa na ca][i]? = some v → xs[j * 13 + i]? = some v := by
  obtain ⟨vq, k, nm, f, u, vp, vk, vb, va, h0, h1, z0, z1, z2, z3, z4, z5, z6, z7, z8, z9, z10, z11, z12⟩ := h.at j hj
  obtain ⟨k', nm', f', u', ap, np, cp, ak, nk, ck, ab, nb, cb, aa, na, ca, e0, e1, e2, e3, rfl, rfl, rfl, rfl⟩ := h1.form
  cases e0; cases e1; cases e2; cases e3
  obtain ⟨aq, cq, rfl⟩ := h0.sl
  refine ⟨aq, cq, k, nm', f, u, ap, np, cp, ak, nk, ck, ab, nb, cb, aa, na, ca, h0, h1, fun i v hi => ?_⟩
  match i, hi with
  | 0, hi => cases hi; exact z0
  | 1, hi => cases hi; exact z1
  | 2, hi => cases hi; exact z2
  | 3, hi => cases hi; exact z3
  | 4, hi => cases hi; exact z4
  | 5, hi => cases hi; exact z5
  | 6, hi => cases hi; exact z6
  | 7, hi => cases hi; exact z7
  | 8, hi => cases hi; exact z8
  | 9, hi => cases hi; exact z9
  | 10, hi => cases hi; exact z10
  | 11, hi => cases hi; exact z11
  | 12, hi => cases hi; exact z12
theorem bind_name (nb0 : Nm) (aq : Option Addr) (nq cq : Nat) (k : Int) (nm : Nm) (f : Bool) (u : Int) (ap : Option Addr) (np cp : Nat) (ak : Option Addr) (nk ck : Nat) (ab : Option Addr) (nb cb : Nat) (aa : Option Addr) (na ca : Nat) (w : World) : Calls Tryd.prog 43 #[.agg #[.string (tx nb0), .slice aq nq cq, .int .i64 k, .string (tx nm), .bool f, .int .u64 u, .slice ap np cp, .slice ak nk ck, .slice ab nb cb, .slice aa na ca]] w fun e w' => e = .returned (.string (tx nb0)) ∧ Below w.heap.size w w' := by
  have hx := (Below.refl w.heap.size w).alloc Nr (.cells #[.string (tx nb0), .slice aq nq cq, .int .i64 k, .string (tx nm), .bool f, .int .u64 u, .slice ap np cp, .slice ak nk ck, .slice ab nb cb, .slice aa na ca] 48)
  go_enter Tryd.func43, Tryd.ntmps43
  go_wp2_with fail
  go_ret
  exact ⟨rfl, hx⟩
theorem names_of_any (bs : List Bnd) (a : Option Addr) (c : Nat) (K K2 : Nat → Prop) (xb : List Value) (w : World) (hn : bs.length ≤ 100000) (hr : RowAt w K 48 10 (.slice a bs.length c) bs.length xb) (hb : BndsAt w K2 bs xb) :
    Calls Tryd.prog 42 #[.slice a bs.length c, .func (.func 43) #[] #[]] w fun e w' => (∃ v, e = .returned v ∧ w'.ownsRow w.heap.size 9 1 v bs.length (namesV (bNames bs))) ∧ Below w.heap.size w w' := by
  have HO := Hd (Ai hr hb)
  obtain ⟨i0, hi0, hz0, hzs, hzb⟩ := info_parts Tryd.info_text
  have eg := enters_of Tryd.func43 (by kernel_rfl) rfl
  clear hr hb
  go_enter Tryd.func42, Tryd.ntmps42
  go_wp2_with fail
  go_loopw [5, 10] (fun s2 s3 wr => ∃ (j : Nat) (vv : Value), j ≤ bs.length ∧ vv = s2 ∧ s3 = .int .i64 j ∧ wr.ownsRow w.heap.size 9 1 vv j (namesV (bNames (bs.take j))) ∧ Below w.heap.size w wr) (fun _ s3 _ => bs.length - (RowKit.intOf s3).toNat)
  case atStart => exact ⟨0, _, Nat.zero_le _, rfl, rfl, World.ownsRow_nil _ _ _ _, Below.refl _ _⟩
  case round =>
    obtain ⟨j, vv, hj, rfl, rfl, hown, hbr⟩ := hrel
    obtain ⟨av, cc, rfl, hlow⟩ := own_shape hown
    have HW := Hd (Ai hown (Ai hbr hlow))
    clear hown hbr hlow
    by_cases gj : j < bs.length
    · have gj' : (j : Int) < (bs.length : Int) := by omega
      obtain ⟨aq, cq, k, nm, f, u, ap, np, cp, ak, nk, ck, ab, nb, cb, aa, na, ca, -, -, hc⟩ := HO.out.2.cells j gj
      obtain ⟨g1, o1, ea1, k1, m1', -, ht1⟩ := HO.out.1.at (by omega)
      subst ea1
      have HP := Hd (fun i v h => later' HW.out.2.1 (ht1 _ _ (hc i v h)))
      have HT := Hd (show namesV (bNames (bs.take (j + 1))) = namesV (bNames (bs.take j)) ++ [.string (tx bs[j].1)] by rw [List.take_succ_eq_append_getElem gj]; simp only [namesV, bNames, List.map_append, List.map_cons, List.map_nil])
      clear ht1 hc
      generalize bs[j].1 = nb0 at *
      generalize bs[j].2.1.length = nq at *
      have p0 : wr.cell? ⟨g1, o1 + j * 10, none⟩ = some (.string (tx nb0)) := HP.out 0 _ rfl
      have p1 : wr.cell? ⟨g1, o1 + j * 10 + 1, none⟩ = some (.slice aq nq cq) := by rw [Nat.add_assoc]; exact HP.out 1 _ rfl
      have p2 : wr.cell? ⟨g1, o1 + j * 10 + 2, none⟩ = some (.int .i64 k) := by rw [Nat.add_assoc]; exact HP.out 2 _ rfl
      have p3 : wr.cell? ⟨g1, o1 + j * 10 + 3, none⟩ = some (.string (tx nm)) := by rw [Nat.add_assoc]; exact HP.out 3 _ rfl
      have p4 : wr.cell? ⟨g1, o1 + j * 10 + 4, none⟩ = some (.bool f) := by rw [Nat.add_assoc]; exact HP.out 4 _ rfl
      have p5 : wr.cell? ⟨g1, o1 + j * 10 + 5, none⟩ = some (.int .u64 u) := by rw [Nat.add_assoc]; exact HP.out 5 _ rfl
      have p6 : wr.cell? ⟨g1, o1 + j * 10 + 6, none⟩ = some (.slice ap np cp) := by rw [Nat.add_assoc]; exact HP.out 6 _ rfl
      have p7 : wr.cell? ⟨g1, o1 + j * 10 + 7, none⟩ = some (.slice ak nk ck) := by rw [Nat.add_assoc]; exact HP.out 7 _ rfl
      have p8 : wr.cell? ⟨g1, o1 + j * 10 + 8, none⟩ = some (.slice ab nb cb) := by rw [Nat.add_assoc]; exact HP.out 8 _ rfl
      have p9 : wr.cell? ⟨g1, o1 + j * 10 + 9, none⟩ = some (.slice aa na ca) := by rw [Nat.add_assoc]; exact HP.out 9 _ rfl
      have hwz : w.heap.size ≤ wr.heap.size := HW.out.2.1.size
      have ej : IntKind.i64.wrap ((j : Int) + 1) = (j : Int) + 1 := by rw [IntKind.wrap_i64]; omega
      have b0 : (0 : Int) ≤ (j : Int) := by omega
      have one1 : ∀ u ∈ [Value.string (tx nb0)], u.oneCell' = true := by intro u hu; simp at hu; rw [hu]; rfl
      have m9 : j + 1 ≤ maxLen := by unfold maxLen; omega
      have m8 : (j + 1) * 16 ≤ 140737488355328 := by omega
      have HX := Hd ((Below.refl wr.heap.size wr).alloc Nr (.cells #[.string (tx nb0), .slice aq nq cq, .int .i64 k, .string (tx nm), .bool f, .int .u64 u, .slice ap np cp, .slice ak nk ck, .slice ab nb cb, .slice aa na ca] 48))
      have HN := Hd (fun W => bind_name nb0 aq nq cq k nm f u ap np cp ak nk ck ab nb cb aa na ca W)
      go_wp2_with fail
      refine (HN.out _).mono ?_
      rintro e w4 ⟨rfl, hb4⟩
      have HB4 := Hd (onB' HX.out hb4)
      clear hb4 HN
      have H5 := Hd (onB' HB4.out ((Below.refl w4.heap.size w4).alloc Nr (.cells #[.string (tx nb0)] 9)))
      have hz5 := H5.out.size
      have HO5 := Hd (own_below HW.out.1 H5.out)
      go_wp2_with (at_builtin; refine wpList_append_lies _ rfl _ _ 39 rfl w.heap.size 9 i0 (.string ⟨#[]⟩) 1 16 Tryd.underlying39 hi0 hz0 hzs hzb rfl (by decide) (.slice av j cc) j (namesV (bNames (bs.take j))) rfl HO5.out ⟨w4.heap.size, 0, none⟩ 1 1 [.string (tx nb0)] rfl rfl (World.news_of_block (heap_alloc_new _ _)) one1 (by decide) m9 m8 (by omega) _ rfl ?_; intro g9 cap9 w9 o1 o2 o3 o4)
      refine ⟨⟨j + 1, _, by omega, rfl, by go_num, by rw [HT.out]; exact o1, ?_⟩, by simp [RowKit.intOf]; omega⟩
      have hx := onB' HW.out.2.1 H5.out
      exact ⟨o2.os.trans hx.os, o2.tape.trans hx.tape, o2.output.trans hx.output, Nt hx.size o2.size, fun k hk => (o2.block k (by have := hx.size; omega) (fun e => by have := HW.out.2.2 k e.symm; omega)).trans (hx.block k hk)⟩
    · obtain rfl : j = bs.length := by omega
      go_wp2_with fail
      go_ret
      have h := HW.out.1
      rw [List.take_length] at h
      exact ⟨⟨_, rfl, h⟩, HW.out.2.1⟩
theorem declV_here : ∀ {l : List (Nm × Int)} {j : Nat} (hj : j < l.length), (declV l)[j * 2]? = some (.string (tx l[j].1)) ∧ (declV l)[j * 2 + 1]? = some (.int .i64 l[j].2)
  | (n, x) :: _, 0, _ => ⟨rfl, rfl⟩
  | (n, x) :: ds, j + 1, hj => by
    have h := declV_here (l := ds) (j := j) (by simpa using hj)
    rw [show (j + 1) * 2 = j * 2 + 1 + 1 by omega]
    exact h
theorem decl_name (nb0 : Nm) (x0 : Int) (w : World) : Calls Tryd.prog 41 #[.agg #[.string (tx nb0), .int .i64 x0]] w fun e w' => e = .returned (.string (tx nb0)) ∧ Below w.heap.size w w' := by
  have hx := (Below.refl w.heap.size w).alloc Nr (.cells #[.string (tx nb0), .int .i64 x0] 36)
  go_enter Tryd.func41, Tryd.ntmps41
  go_wp2_with fail
  go_ret
  exact ⟨rfl, hx⟩
theorem cnames_of_any (ds : List (Nm × Int)) (a : Option Addr) (c : Nat) (K : Nat → Prop) (w : World) (hn : ds.length ≤ 100000) (hr : RowAt w K 36 2 (.slice a ds.length c) ds.length (declV ds)) :
    Calls Tryd.prog 40 #[.slice a ds.length c, .func (.func 41) #[] #[]] w fun e w' => (∃ v, e = .returned v ∧ w'.ownsRow w.heap.size 9 1 v ds.length (namesV (ds.map (·.1)))) ∧ Below w.heap.size w w' := by
  have HO := Hd hr
  obtain ⟨i0, hi0, hz0, hzs, hzb⟩ := info_parts Tryd.info_text
  have eg := enters_of Tryd.func41 (by kernel_rfl) rfl
  clear hr
  go_enter Tryd.func40, Tryd.ntmps40
  go_wp2_with fail
  go_loopw [5, 10] (fun s2 s3 wr => ∃ (j : Nat) (vv : Value), j ≤ ds.length ∧ vv = s2 ∧ s3 = .int .i64 j ∧ wr.ownsRow w.heap.size 9 1 vv j (namesV ((ds.take j).map (·.1))) ∧ Below w.heap.size w wr) (fun _ s3 _ => ds.length - (RowKit.intOf s3).toNat)
  case atStart => exact ⟨0, _, Nat.zero_le _, rfl, rfl, World.ownsRow_nil _ _ _ _, Below.refl _ _⟩
  case round =>
    obtain ⟨j, vv, hj, rfl, rfl, hown, hbr⟩ := hrel
    obtain ⟨av, cc, rfl, hlow⟩ := own_shape hown
    have HW := Hd (Ai hown (Ai hbr hlow))
    clear hown hbr hlow
    by_cases gj : j < ds.length
    · have gj' : (j : Int) < (ds.length : Int) := by omega
      obtain ⟨g1, o1, ea1, k1, m1', -, ht1⟩ := HO.out.at (by omega)
      subst ea1
      obtain ⟨z0, z1⟩ := declV_here gj
      have p0 : wr.cell? ⟨g1, o1 + j * 2, none⟩ = some (.string (tx ds[j].1)) := later' HW.out.2.1 (ht1 _ _ z0)
      have p1 : wr.cell? ⟨g1, o1 + j * 2 + 1, none⟩ = some (.int .i64 ds[j].2) := by rw [Nat.add_assoc]; exact later' HW.out.2.1 (ht1 _ _ z1)
      have HT := Hd (show namesV ((ds.take (j + 1)).map (·.1)) = namesV ((ds.take j).map (·.1)) ++ [.string (tx ds[j].1)] by rw [List.take_succ_eq_append_getElem gj]; simp only [namesV, List.map_append, List.map_cons, List.map_nil])
      clear ht1 z0 z1
      generalize ds[j].1 = nb0 at *
      generalize ds[j].2 = x0 at *
      have hwz : w.heap.size ≤ wr.heap.size := HW.out.2.1.size
      have ej : IntKind.i64.wrap ((j : Int) + 1) = (j : Int) + 1 := by rw [IntKind.wrap_i64]; omega
      have b0 : (0 : Int) ≤ (j : Int) := by omega
      have one1 : ∀ u ∈ [Value.string (tx nb0)], u.oneCell' = true := by intro u hu; simp at hu; rw [hu]; rfl
      have m9 : j + 1 ≤ maxLen := by unfold maxLen; omega
      have m8 : (j + 1) * 16 ≤ 140737488355328 := by omega
      have HX := Hd ((Below.refl wr.heap.size wr).alloc Nr (.cells #[.string (tx nb0), .int .i64 x0] 36))
      have HN := Hd (fun W => decl_name nb0 x0 W)
      go_wp2_with fail
      refine (HN.out _).mono ?_
      rintro e w4 ⟨rfl, hb4⟩
      have HB4 := Hd (onB' HX.out hb4)
      clear hb4 HN
      have H5 := Hd (onB' HB4.out ((Below.refl w4.heap.size w4).alloc Nr (.cells #[.string (tx nb0)] 9)))
      have hz5 := H5.out.size
      have HO5 := Hd (own_below HW.out.1 H5.out)
      go_wp2_with (at_builtin; refine wpList_append_lies _ rfl _ _ 39 rfl w.heap.size 9 i0 (.string ⟨#[]⟩) 1 16 Tryd.underlying39 hi0 hz0 hzs hzb rfl (by decide) (.slice av j cc) j (namesV ((ds.take j).map (·.1))) rfl HO5.out ⟨w4.heap.size, 0, none⟩ 1 1 [.string (tx nb0)] rfl rfl (World.news_of_block (heap_alloc_new _ _)) one1 (by decide) m9 m8 (by omega) _ rfl ?_; intro g9 cap9 w9 o1 o2 o3 o4)
      refine ⟨⟨j + 1, _, by omega, rfl, by go_num, by rw [HT.out]; exact o1, ?_⟩, by simp [RowKit.intOf]; omega⟩
      have hx := onB' HW.out.2.1 H5.out
      exact ⟨o2.os.trans hx.os, o2.tape.trans hx.tape, o2.output.trans hx.output, Nt hx.size o2.size, fun k hk => (o2.block k (by have := hx.size; omega) (fun e => by have := HW.out.2.2 k e.symm; omega)).trans (hx.block k hk)⟩
    · obtain rfl : j = ds.length := by omega
      go_wp2_with fail
      go_ret
      have h := HW.out.1
      rw [List.take_length] at h
      exact ⟨⟨_, rfl, h⟩, HW.out.2.1⟩
theorem pcons_any (ds : List (Nm × Int)) (hl : ∀ d, d ∈ ds → d.1.length ≤ 100000) (a : Option Addr) (c : Nat) (b : Value) (K : Nat → Prop) (w : World) (hn : 4 + ds.length ≤ 100000) (hr : RowAt w K 36 2 (.slice a ds.length c) ds.length (declV ds)) (hb : ∃ a n c, b = .slice a n c) :
    Calls Tryd.prog 13 #[.agg #[.slice a ds.length c, b]] w fun e w' => (∃ v, e = .returned v ∧ w'.ownsRow w.heap.size 36 2 v (4 + ds.length) (declV (four ++ ds))) ∧ Below w.heap.size w w' := by
  obtain ⟨ab, nb, cb, rfl⟩ := hb
  have HO := Hd hr
  have HL := Hd hl
  obtain ⟨i0, hi0, hz0, hzs, hzb⟩ := info_parts Tryd.info_decl
  clear hr hl
  have ba := (Below.refl w.heap.size w).alloc Nr (.cells #[.slice a ds.length c, .slice ab nb cb] 26)
  have bb := ba.alloc ba.size (.cells (declV four).toArray 36)
  have hz : (w.alloc (.cells #[.slice a ds.length c, .slice ab nb cb] 26)).heap.size = w.heap.size + 1 := Array.size_push ..
  have HA : ((w.alloc (.cells #[.slice a ds.length c, .slice ab nb cb] 26)).alloc (.cells (declV four).toArray 36)).ownsRow w.heap.size 36 2 (.slice (some ⟨w.heap.size + 1, 0, none⟩) 4 4) 4 (declV four) := ⟨rfl, Or.inr ⟨w.heap.size + 1, 4, (declV four).toArray, rfl, by omega, by rw [← hz]; exact heap_alloc_new _ _, Nat.le_refl _, by decide, rfl, rfl⟩⟩
  have HD := Hd (Ai HA bb)
  clear HA ba bb hz
  go_enter Tryd.func13, Tryd.ntmps13
  go_wp2_with fail
  generalize hW0 : ((w.alloc (.cells #[.slice a ds.length c, .slice ab nb cb] 26)).alloc (.cells (declV four).toArray 36)) = W0 at HD
  have hW1 : ((w.alloc (.cells #[.slice a ds.length c, .slice ab nb cb] 26)).alloc (.cells #[.string ⟨#[70, 97, 108, 115, 101]⟩, .int .i64 0, .string ⟨#[84, 114, 117, 101]⟩, .int .i64 0, .string ⟨#[78, 111, 116, 104, 105, 110, 103]⟩, .int .i64 0, .string ⟨#[74, 117, 115, 116]⟩, .int .i64 1] 36)) = W0 := hW0
  rw [hW1]
  clear hW0 hW1
  go_loopw [3, 14] (fun s2 s3 wr => ∃ (j : Nat) (vv : Value), j ≤ ds.length ∧ vv = s2 ∧ s3 = .int .i64 j ∧ wr.ownsRow w.heap.size 36 2 vv (4 + j) (declV (four ++ ds.take j)) ∧ Below w.heap.size w wr) (fun _ s3 _ => ds.length - (RowKit.intOf s3).toNat)
  case atStart => exact ⟨0, _, Nat.zero_le _, rfl, rfl, by rw [List.take_zero, List.append_nil]; exact HD.out.1, HD.out.2⟩
  case round =>
    obtain ⟨j, vv, hj, rfl, rfl, hown, hbr⟩ := hrel
    obtain ⟨av, cc, rfl, hlow⟩ := own_shape hown
    have HW := Hd (Ai hown (Ai hbr hlow))
    clear hown hbr hlow
    by_cases gj : j < ds.length
    · have gj' : (j : Int) < (ds.length : Int) := by omega
      obtain ⟨g1, o1, ea1, k1, m1', -, ht1⟩ := HO.out.at (by omega)
      subst ea1
      obtain ⟨z0, z1⟩ := declV_here gj
      have p0 : wr.cell? ⟨g1, o1 + j * 2, none⟩ = some (.string (tx ds[j].1)) := later' HW.out.2.1 (ht1 _ _ z0)
      have p1 : wr.cell? ⟨g1, o1 + j * 2 + 1, none⟩ = some (.int .i64 ds[j].2) := by rw [Nat.add_assoc]; exact later' HW.out.2.1 (ht1 _ _ z1)
      have HT := Hd (show declV (four ++ ds.take (j + 1)) = declV (four ++ ds.take j) ++ [.string (tx ds[j].1), .int .i64 ds[j].2] by rw [List.take_succ_eq_append_getElem gj, ← List.append_assoc, declV_snoc])
      have hlx := HL.out ds[j] (List.getElem_mem gj)
      clear ht1 z0 z1
      generalize ds[j].1 = nb0 at *
      generalize ds[j].2 = x0 at *
      have ej : IntKind.i64.wrap ((j : Int) + 1) = (j : Int) + 1 := by rw [IntKind.wrap_i64]; omega
      have b0 : (0 : Int) ≤ (j : Int) := by omega
      have HX := Hd (Ai ((Below.refl wr.heap.size wr).alloc Nr (.cells #[.string (tx nb0), .int .i64 x0] 36)) (BoxW.alloc wr #[.string (tx nb0), .int .i64 x0] 36))
      go_upto_region 5 with fail
      have hwz : w.heap.size ≤ wr.heap.size := HW.out.2.1.size
      generalize (wr.alloc (.cells #[.string (tx nb0), .int .i64 x0] 36)) = W at *
      have d0 : W.cell? ⟨wr.heap.size, 0, none⟩ = some (.string (tx nb0)) := HX.out.2.1 0 _ rfl
      have d1 : W.cell? ⟨wr.heap.size, 1, none⟩ = some (.int .i64 x0) := HX.out.2.1 1 _ rfl
      have hbd : wr.heap.size < W.heap.size := Bl d0
      have hsx : (tx nb0).size ≤ 140737488355328 := by
        have : (tx nb0).size = nb0.length := by simp [tx, ByteArray.size]
        omega
      have HC := Hd (clone_any (tx nb0) hsx W.drew)
      have HDr := Hd (show Below W.heap.size W W.drew from Br.drew)
      have m9 : 4 + j + 1 ≤ maxLen := by unfold maxLen; omega
      have m8 : (4 + j + 1) * 24 ≤ 140737488355328 := by omega
      have one1 : ∀ u ∈ [Value.string (tx nb0), .int .i64 x0], u.oneCell' = true := by intro u hu; simp at hu; rcases hu with rfl | rfl <;> rfl
      clear hsx hlx
      go_region_law (first
        | (refine step_wanted rfl ?_; go_simp; go_at_call 21; refine HC.out.mono ?_; rintro e W6 ⟨rfl, hb6⟩; have hb60 := onB' HDr.out hb6; have hb7 : Below W6.heap.size W6 (W6.alloc (.cells #[.string (tx nb0), .int .i64 x0] 36)) := Br.alloc Nr _; have e1 := later' hb60 d1; have HB7 := Hd (onB' (onB' HX.out.1 hb60) hb7); have HO7 := Hd (own_below HW.out.1 HB7.out); have hz7 := HB7.out.size)
        | (refine step_append_lies _ rfl _ _ 23 rfl w.heap.size 36 i0 (.agg #[.string ⟨#[]⟩, .int .i64 0]) 2 24 Tryd.underlying23 hi0 hz0 hzs hzb rfl (by decide) (.slice av (4 + j) cc) (4 + j) (declV (four ++ ds.take j)) rfl HO7.out ⟨W6.heap.size, 0, none⟩ 1 1 [.string (tx nb0), .int .i64 x0] rfl rfl (World.news_of_block (heap_alloc_new _ _)) one1 (by decide) m9 m8 (by omega) _ rfl ?_; intro g9 cap9 w9 o1 o2 o3 o4))
      all_goals go_wp2_with fail
      all_goals (refine ⟨⟨j + 1, _, by omega, rfl, by go_num, by rw [HT.out]; exact o1, ?_⟩, by simp [RowKit.intOf]; omega⟩; have hx := onB' HW.out.2.1 HB7.out; exact ⟨o2.os.trans hx.os, o2.tape.trans hx.tape, o2.output.trans hx.output, Nt hx.size o2.size, fun k hk => (o2.block k (by have := hx.size; omega) (fun e => by have := HW.out.2.2 k e.symm; omega)).trans (hx.block k hk)⟩)
    · obtain rfl : j = ds.length := by omega
      go_wp2_with fail
      go_ret
      have h := HW.out.1
      rw [List.take_length] at h
      exact ⟨⟨_, rfl, h⟩, HW.out.2.1⟩
end Go.Proofs.YtdjcdecbmeickaaDoor
