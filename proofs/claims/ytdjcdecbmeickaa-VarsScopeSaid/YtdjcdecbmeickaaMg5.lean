import Derived.Maps.OwnSet
import Derived.Maps.OwnOps
import Derived.Maps.Views
import Derived.Shelf.SlMaps.Clone
import Derived.Deep.AppendLies
import Derived.Great.Walk
import Derived.Deep.Onto
import Derived.RangeFuncKeeps
import Derived.RangeFuncBound
import Derived.Test.YtdjcdecbmeickaaMg2
import Derived.Test.YtdjcdecbmeickaaMg4
namespace Go.Proofs.Ytdjcdecbmeickaa
set_option maxHeartbeats 64000000
set_option maxRecDepth 100000
open Go.RowKit Go.Lib
mutual
def wtE : Ex → Nat
  | .mk k _ _ _ ps ks bs al => (if k = 1 then 1 else 0) + ps.length + wtEs ks + wtBs bs + wtAs al
def wtEs : List Ex → Nat
  | [] => 0
  | e :: r => wtE e + wtEs r
def wtBs : List (Nm × List Nm × Ex) → Nat
  | [] => 0
  | (_, ps, e) :: r => (2 + ps.length + wtE e) + wtBs r
def wtAs : List (Int × Nm × Bool × Int × List Nm × Ex) → Nat
  | [] => 0
  | (_, _, _, _, ns, e) :: r => (1 + ns.length + wtE e) + wtAs r
end
abbrev nB (b : Bnd) : Nat := 1 + b.2.1.length + wtE b.2.2
abbrev nB2 (b : Bnd) : Nat := 2 + b.2.1.length + wtE b.2.2
abbrev nA (a : Alt) : Nat := 1 + a.2.2.2.2.1.length + wtE a.2.2.2.2.2
def sumN {α : Type} (f : α → Nat) : List α → Nat
  | [] => 0
  | a :: r => f a + sumN f r
theorem sumN_app {α : Type} (f : α → Nat) : ∀ (a b : List α), sumN f (a ++ b) = sumN f a + sumN f b
  | [], b => by simp [sumN]
  | x :: a, b => by simp only [List.cons_append, sumN, sumN_app f a b]; omega
theorem sumN_mem {α : Type} (f : α → Nat) : ∀ {l : List α} {x : α}, x ∈ l → f x ≤ sumN f l
  | y :: r, x, h => by
    rcases List.mem_cons.1 h with rfl | h
    · simp only [sumN]; omega
    · have := sumN_mem f h
      simp only [sumN]; omega
theorem sumN_nB2 : ∀ (l : List Bnd), sumN nB2 l = l.length + sumN nB l
  | [] => rfl
  | b :: r => by
    have h := sumN_nB2 r
    simp only [sumN, List.length_cons, h, nB, nB2]
    omega
theorem wtEs_sum : ∀ (l : List Ex), wtEs l = sumN wtE l
  | [] => by unfold wtEs sumN; rfl
  | e :: r => by unfold wtEs sumN; rw [wtEs_sum r]
theorem wtBs_sum : ∀ (l : List Bnd), wtBs l = sumN nB2 l
  | [] => by unfold wtBs sumN; rfl
  | (n, ps, e) :: r => by unfold wtBs sumN; rw [wtBs_sum r]
theorem wtAs_sum : ∀ (l : List Alt), wtAs l = sumN nA l
  | [] => by unfold wtAs sumN; rfl
  | (k, n, f, x, ns, e) :: r => by unfold wtAs sumN; rw [wtAs_sum r]
theorem wtE_mk (k : Int) (n : Nm) (f : Bool) (x : Int) (ps : List Nm) (ks : List Ex) (bs : List Bnd) (al : List Alt) : wtE (.mk k n f x ps ks bs al) = (if k = 1 then 1 else 0) + ps.length + sumN wtE ks + sumN nB2 bs + sumN nA al := by
  conv => lhs; unfold wtE
  rw [wtEs_sum, wtBs_sum, wtAs_sum]
def Cw {α : Type} (f : α → Nat) (m : Nat) : Out α → Prop
  | .ok a _ r => f a + r.length ≤ m
  | .bad _ _ => True
theorem Cw.bind {α β : Type} {f : α → Nat} {g : β → Nat} {m m' : Nat} {o : Out α} {k : α → Int → List Tok → Out β} (h : Cw f m o) (hk : ∀ a l r, f a + r.length ≤ m → Cw g m' (k a l r)) : Cw g m' (o.bind k) := by
  cases o with
  | ok a l r => exact hk a l r h
  | bad e l => trivial
theorem refuse_c {α : Type} (f : α → Nat) (m : Nat) (e l : Int) (r : List Tok) : Cw f m (refuseO e l r) := by cases r <;> trivial
theorem take_c (l : Int) (r : List Tok) : Cw (fun _ => 1) r.length (takeO l r) := by
  cases r with
  | nil => trivial
  | cons y r => show 1 + r.length ≤ r.length + 1; omega
theorem want_c (s : Sh) (l : Int) (r : List Tok) : Cw (fun _ => 1) r.length (wantO s l r) := by
  unfold wantO
  split
  · exact take_c _ _
  · exact refuse_c _ _ _ _ _
theorem names_c : ∀ (r : List Tok) (l : Int) (acc : List Nm), (namesO l r acc).1.length + (namesO l r acc).2.2.length ≤ acc.length + r.length
  | [], _, _ => Nat.le_refl _
  | x :: r, l, acc => by
    unfold namesO
    split
    · have := names_c r x.2 (acc ++ [x.1.t])
      rw [List.length_append] at this
      simp only [List.length_cons, List.length_nil] at this ⊢
      omega
    · exact Nat.le_refl _
abbrev CwP {α : Type} (f : α → Nat) (p : Par α) : Prop := ∀ l r, Cw f r.length (p l r)
theorem bindO_c {ex : Par Ex} (hx : CwP wtE ex) : CwP nB2 (bindO ex) := by
  intro l r
  unfold bindO
  refine (want_c _ _ _).bind fun a l1 r1 h1 => ?_
  have hn := names_c r1 l1 []
  refine (want_c _ _ _).bind fun b l2 r2 h2 => ?_
  refine (hx _ _).bind fun c l3 r3 h3 => ?_
  show 2 + (namesO l1 r1 []).1.length + wtE c + r3.length ≤ r.length
  simp only [List.length_nil] at hn
  omega
theorem moreO_c {α : Type} {f : α → Nat} {item : Par α} (hx : CwP f item) : ∀ n (acc : List α) (l : Int) (r : List Tok), Cw (sumN f) (sumN f acc + r.length) (moreO item n acc l r)
  | 0, acc, l, r => by unfold moreO; exact Nat.le_refl _
  | n + 1, acc, l, r => by
    unfold moreO
    split
    · refine (take_c _ _).bind fun a l1 r1 h1 => ?_
      refine (hx _ _).bind fun c l2 r2 h2 => ?_
      have h := moreO_c hx n (acc ++ [c]) l2 r2
      have e : sumN f (acc ++ [c]) = sumN f acc + f c := by rw [sumN_app]; simp [sumN]
      rw [e] at h
      cases ho : moreO item n (acc ++ [c]) l2 r2 with
      | bad e l => trivial
      | ok a l3 r3 =>
        rw [ho] at h
        show sumN f a + r3.length ≤ sumN f acc + r.length
        have h : sumN f a + r3.length ≤ sumN f acc + f c + r2.length := h
        omega
    · exact Nat.le_refl _
theorem someO_c {α : Type} {f : α → Nat} {item : Par α} (hx : CwP f item) : CwP (sumN f) (someO item) := by
  intro l r
  unfold someO
  refine (hx _ _).bind fun c l1 r1 h1 => ?_
  have h := moreO_c hx (r1.length + 1) [c] l1 r1
  have e : sumN f [c] = f c := by simp [sumN]
  rw [e] at h
  cases ho : moreO item (r1.length + 1) [c] l1 r1 with
  | bad e l => trivial
  | ok a l3 r3 =>
    rw [ho] at h
    have h : sumN f a + r3.length ≤ f c + r1.length := h
    show sumN f a + r3.length ≤ r.length
    omega
theorem innerO_c {ex : Par Ex} (hx : CwP wtE ex) : CwP wtE (innerO ex) := by
  intro l r
  unfold innerO
  refine (want_c _ _ _).bind fun a l1 r1 h1 => ?_
  refine (hx _ _).bind fun c l2 r2 h2 => ?_
  refine (want_c _ _ _).bind fun a l3 r3 h3 => ?_
  show wtE c + r3.length ≤ r.length
  omega
theorem leaf_wt (k : Int) (n : Nm) : wtE (.leaf k n) ≤ 1 := by
  show wtE (.mk k n false 0 [] [] [] []) ≤ 1
  rw [wtE_mk]
  simp only [sumN, List.length_nil]
  split <;> omega
theorem num_wt (f : Bool) (x : Int) : wtE (.num f x) ≤ 1 := by
  show wtE (.mk 3 [] f x [] [] [] []) ≤ 1
  rw [wtE_mk]
  simp only [sumN, List.length_nil]
  split <;> omega
theorem atomO_c {ex : Par Ex} (hx : CwP wtE ex) : CwP wtE (atomO ex) := by
  intro l r
  have hl : ∀ k, Cw wtE r.length ((takeO l r).bind fun t l r => .ok (.leaf k t.1.t) l r) := fun k => (take_c _ _).bind fun a l1 r1 h1 => by
    have := leaf_wt k a.1.t
    show wtE (.leaf k a.1.t) + r1.length ≤ r.length
    omega
  unfold atomO
  split
  · exact hl 1
  split
  · exact hl 2
  split
  · exact (take_c _ _).bind fun a l1 r1 h1 => by
      have := num_wt a.1.f a.1.x
      show wtE (.num a.1.f a.1.x) + r1.length ≤ r.length
      omega
  split
  · exact hl 5
  split
  · exact innerO_c hx l r
  · exact refuse_c _ _ _ _ _
theorem atomsO_c {ex : Par Ex} (hx : CwP wtE ex) : ∀ n (acc : List Ex) (l : Int) (r : List Tok), Cw (sumN wtE) (sumN wtE acc + r.length) (atomsO ex n acc l r)
  | 0, acc, l, r => by unfold atomsO; exact Nat.le_refl _
  | n + 1, acc, l, r => by
    unfold atomsO
    split
    · refine (atomO_c hx _ _).bind fun c l2 r2 h2 => ?_
      have h := atomsO_c hx n (acc ++ [c]) l2 r2
      have e : sumN wtE (acc ++ [c]) = sumN wtE acc + wtE c := by rw [sumN_app]; simp [sumN]
      rw [e] at h
      cases ho : atomsO ex n (acc ++ [c]) l2 r2 with
      | bad e l => trivial
      | ok a l3 r3 =>
        rw [ho] at h
        have h : sumN wtE a + r3.length ≤ sumN wtE acc + wtE c + r2.length := h
        show sumN wtE a + r3.length ≤ sumN wtE acc + r.length
        omega
    · exact Nat.le_refl _
theorem withKids_wt (a : Ex) (ks : List Ex) : wtE (a.withKids ks) ≤ wtE a + sumN wtE ks := by
  obtain ⟨k, n, f, x, ps, k0, bs, al⟩ := a
  show wtE (.mk k n f x ps ks bs al) ≤ _
  rw [wtE_mk, wtE_mk]
  omega
theorem rowE_wt (b : Bool) (a : Ex) (ks : List Ex) : wtE (rowE b a ks) ≤ wtE a + sumN wtE ks := by
  unfold rowE
  split
  · exact withKids_wt a ks
  split
  · omega
  · rw [wtE_mk]
    simp only [sumN, List.length_nil]
    split <;> omega
theorem rowO_c {ex : Par Ex} (hx : CwP wtE ex) : CwP wtE (rowO ex) := by
  intro l r
  unfold rowO
  refine (atomO_c hx _ _).bind fun c l1 r1 h1 => ?_
  refine (atomsO_c hx _ [] _ _).bind fun d l2 r2 h2 => ?_
  have := rowE_wt (decide (shapeL r = sCon ∨ shapeL r = sBack)) c d
  show wtE (rowE _ c d) + r2.length ≤ r.length
  simp only [sumN] at h2
  omega
theorem rowsO_c {ex : Par Ex} (hx : CwP wtE ex) : CwP wtE (rowsO ex) := by
  intro l r
  unfold rowsO
  refine (rowO_c hx _ _).bind fun c l1 r1 h1 => ?_
  split
  · refine (take_c _ _).bind fun a l2 r2 h2 => ?_
    refine (rowO_c hx _ _).bind fun d l3 r3 h3 => ?_
    show wtE (.mk 5 a.1.t false 0 [] [c, d] [] []) + r3.length ≤ r.length
    rw [wtE_mk]
    simp only [sumN, List.length_nil]
    rw [if_neg (by omega)]
    omega
  · exact h1
theorem letO_c {ex : Par Ex} (hx : CwP wtE ex) : CwP wtE (letO ex) := by
  intro l r
  unfold letO
  refine (want_c _ _ _).bind fun a l1 r1 h1 => ?_
  refine (someO_c (bindO_c hx) _ _).bind fun c l2 r2 h2 => ?_
  refine (want_c _ _ _).bind fun b l3 r3 h3 => ?_
  refine (hx _ _).bind fun d l4 r4 h4 => ?_
  show wtE (.mk 6 [] false 0 [] [d] c []) + r4.length ≤ r.length
  rw [wtE_mk]
  simp only [sumN, List.length_nil]
  rw [if_neg (by omega)]
  omega
theorem altO_c {ex : Par Ex} (hx : CwP wtE ex) : CwP nA (altO ex) := by
  intro l r
  unfold altO
  split
  · refine (take_c _ _).bind fun a l1 r1 h1 => ?_
    have hn := names_c r1 l1 []
    refine (want_c _ _ _).bind fun b l2 r2 h2 => ?_
    refine (hx _ _).bind fun c l3 r3 h3 => ?_
    show 1 + (namesO l1 r1 []).1.length + wtE c + r3.length ≤ r.length
    simp only [List.length_nil] at hn
    omega
  split
  · refine (take_c _ _).bind fun a l1 r1 h1 => ?_
    refine (want_c _ _ _).bind fun b l2 r2 h2 => ?_
    refine (hx _ _).bind fun c l3 r3 h3 => ?_
    show 1 + 0 + wtE c + r3.length ≤ r.length
    omega
  · refine (want_c _ _ _).bind fun a l1 r1 h1 => ?_
    refine (want_c _ _ _).bind fun b l2 r2 h2 => ?_
    refine (hx _ _).bind fun c l3 r3 h3 => ?_
    show 1 + 0 + wtE c + r3.length ≤ r.length
    omega
theorem caseO_c {ex : Par Ex} (hx : CwP wtE ex) : CwP wtE (caseO ex) := by
  intro l r
  unfold caseO
  refine (want_c _ _ _).bind fun a l1 r1 h1 => ?_
  refine (hx _ _).bind fun c l2 r2 h2 => ?_
  refine (want_c _ _ _).bind fun a l3 r3 h3 => ?_
  refine (want_c _ _ _).bind fun a l4 r4 h4 => ?_
  split
  · refine (want_c _ _ _).bind fun a l5 r5 h5 => ?_
    show wtE (.mk 7 [] false 0 [] [c] [] []) + r5.length ≤ r.length
    rw [wtE_mk]
    simp only [sumN, List.length_nil]
    rw [if_neg (by omega)]
    omega
  · refine (someO_c (altO_c hx) _ _).bind fun d l5 r5 h5 => ?_
    refine (want_c _ _ _).bind fun a l6 r6 h6 => ?_
    show wtE (.mk 7 [] false 0 [] [c] [] d) + r6.length ≤ r.length
    rw [wtE_mk]
    simp only [sumN, List.length_nil]
    rw [if_neg (by omega)]
    omega
theorem lamO_c {ex : Par Ex} (hx : CwP wtE ex) : CwP wtE (lamO ex) := by
  intro l r
  unfold lamO
  refine (want_c _ _ _).bind fun a l1 r1 h1 => ?_
  have hn := names_c r1 l1 []
  split
  · refine (want_c _ _ _).bind fun b l2 r2 h2 => ?_
    refine (hx _ _).bind fun c l3 r3 h3 => ?_
    show wtE (.mk 8 [] false 0 (namesO l1 r1 []).1 [c] [] []) + r3.length ≤ r.length
    rw [wtE_mk]
    simp only [sumN, List.length_nil] at hn ⊢
    rw [if_neg (by omega)]
    omega
  · exact refuse_c _ _ _ _ _
theorem exprO_c : ∀ n d, CwP wtE (exprO n d)
  | 0, _ => fun _ _ => trivial
  | n + 1, d => by
    have hx := exprO_c n (d + 1)
    intro l r
    unfold exprO
    split
    · split
      · exact refuse_c _ _ _ _ _
      split
      · exact letO_c hx _ _
      split
      · exact caseO_c hx _ _
      split
      · exact lamO_c hx _ _
      · exact rowsO_c hx _ _
    · exact refuse_c _ _ _ _ _
theorem declsO_c : ∀ n (acc : List (Nm × Int)) (l : Int) (r : List Tok), Cw List.length (acc.length + r.length) (declsO n acc l r)
  | 0, acc, l, r => by unfold declsO; exact Nat.le_refl _
  | n + 1, acc, l, r => by
    unfold declsO
    split
    · refine (take_c _ _).bind fun a l1 r1 h1 => ?_
      split
      · refine (take_c _ _).bind fun b l2 r2 h2 => ?_
        split
        · exact refuse_c _ _ _ _ _
        · have h := declsO_c n (acc ++ [(a.1.t, b.1.x)]) l2 r2
          cases ho : declsO n (acc ++ [(a.1.t, b.1.x)]) l2 r2 with
          | bad e l => trivial
          | ok a3 l3 r3 =>
            rw [ho] at h
            have h : a3.length + r3.length ≤ (acc ++ [(a.1.t, b.1.x)]).length + r2.length := h
            rw [List.length_append] at h
            simp only [List.length_cons, List.length_nil] at h
            show a3.length + r3.length ≤ acc.length + r.length
            omega
      · exact refuse_c _ _ _ _ _
    · exact Nat.le_refl _
def wtM (m : Md) : Nat := m.1.length + sumN nB2 m.2
theorem moduleO_c : ∀ n cs bs (l : Int) (r : List Tok), Cw wtM (wtM (cs, bs) + r.length) (moduleO n cs bs l r)
  | 0, cs, bs, l, r => by unfold moduleO; exact Nat.le_refl _
  | n + 1, cs, bs, l, r => by
    unfold moduleO
    split
    · exact Nat.le_refl _
    split
    · refine (take_c _ _).bind fun a l1 r1 h1 => ?_
      refine (declsO_c _ [] _ _).bind fun d l2 r2 h2 => ?_
      refine (want_c _ _ _).bind fun b l3 r3 h3 => ?_
      have h := moduleO_c n (cs ++ d) bs l3 r3
      cases ho : moduleO n (cs ++ d) bs l3 r3 with
      | bad e l => trivial
      | ok m l4 r4 =>
        rw [ho] at h
        have h : wtM m + r4.length ≤ ((cs ++ d).length + sumN nB2 bs) + r3.length := h
        rw [List.length_append] at h
        simp only [List.length_nil] at h2
        show wtM m + r4.length ≤ (cs.length + sumN nB2 bs) + r.length
        omega
    · refine (bindO_c (exprO_c _ _) _ _).bind fun d l2 r2 h2 => ?_
      refine (want_c _ _ _).bind fun b l3 r3 h3 => ?_
      have h := moduleO_c n cs (bs ++ [d]) l3 r3
      cases ho : moduleO n cs (bs ++ [d]) l3 r3 with
      | bad e l => trivial
      | ok m l4 r4 =>
        rw [ho] at h
        have e : sumN nB2 (bs ++ [d]) = sumN nB2 bs + nB2 d := by rw [sumN_app]; simp [sumN]
        have h : wtM m + r4.length ≤ (cs.length + sumN nB2 (bs ++ [d])) + r3.length := h
        rw [e] at h
        show wtM m + r4.length ≤ (cs.length + sumN nB2 bs) + r.length
        omega
theorem parse_wt {T : List Tok} {m : Md} {l : Int} {r : List Tok} (h : parseO T = .ok m l r) : wtM m ≤ T.length := by
  have hw := moduleO_c (T.length + 1) [] [] 1 T
  rw [show moduleO (T.length + 1) [] [] 1 T = parseO T from rfl, h] at hw
  have hw : wtM m + r.length ≤ (0 + 0) + T.length := hw
  omega
def NSet (w : World) (b n : Nat) (dom : List Nm) : Prop :=
  ∃ D : DataW Unit, w.ownsMap Try.prog 9 (plainElem Try.prog 4) b n D ∧ ∀ x, D.atKey (.string x) (.lit (.bool false)) = .lit (.bool (decide (x ∈ dom)))
theorem nset_made (w : World) : NSet (w.alloc (.map #[] 0)) w.heap.size 0 [] := by
  refine ⟨_, World.ownsMap_made w _ _ _, fun x => ?_⟩
  simp
  rfl
theorem NSet.same {w w' : World} {b n : Nat} {dom : List Nm} (h : NSet w b n dom) (hk : w'.heap[b]? = w.heap[b]?) : NSet w' b n dom := by
  obtain ⟨D, ⟨es, c, hb, r⟩, h2⟩ := h
  exact ⟨D, ⟨es, c, hk.trans hb, r⟩, h2⟩
theorem NSet.lt {w : World} {b n : Nat} {dom : List Nm} (h : NSet w b n dom) : b < w.heap.size := by
  obtain ⟨D, h1, h2⟩ := h
  exact h1.lt
theorem NSet.later {w w' : World} {b n : Nat} {dom : List Nm} (h : NSet w b n dom) (hb : Below w.heap.size w w') : NSet w' b n dom := h.same (hb.block b h.lt)
theorem NSet.eq {w : World} {b n : Nat} {dom dom' : List Nm} (h : NSet w b n dom) (he : SetEq dom dom') : NSet w b n dom' := by
  obtain ⟨D, h1, h2⟩ := h
  exact ⟨D, h1, fun x => by rw [h2]; simp only [he x]⟩
theorem nzero_bool (w : World) : (zeroValue 4).run Try.prog w = .ok (.bool false) w := rfl
theorem nplain_bool_inv {P : Program} {e : TypeId} (he : P.underlying e = some .bool) {v : Value} {z : DataW Unit × List MemPlace} (h : plainElem P e v = some z) : ∃ a, v = .bool a ∧ z = (.lit (.bool a), []) := by
  unfold plainElem at h
  rw [he] at h
  cases v <;> simp at h
  subst h
  exact ⟨_, rfl, rfl⟩
theorem RowAt.low {W W' : World} {K : Nat → Prop} {e : TypeId} {size : Nat} {v : Value} {n : Nat} {xs : List Value} (h : RowAt W K e size v n xs) (hb : Below W.heap.size W W') : RowAt W' (fun g => g < W.heap.size) e size v n xs :=
  h.move fun g _ lt => ⟨lt, hb.block g lt⟩
theorem ExAt.form {W : World} {K : Nat → Prop} {x : Ex} {k n f u vp vk vb va : Value} (h : ExAt W K x [k, n, f, u, vp, vk, vb, va]) : ∃ k' nm f' u' ap np cp ak nk ck ab nb cb aa na ca, k = .int .i64 k' ∧ n = .string (tx nm) ∧ f = .bool f' ∧ u = .int .u64 u' ∧ vp = .slice ap np cp ∧ vk = .slice ak nk ck ∧ vb = .slice ab nb cb ∧ va = .slice aa na ca := by
  cases h with
  | mk k n f x ps ks bs al vp vk vb va xk xb xa hp hk hb ha tk tb ta =>
    obtain ⟨ap, cp, rfl⟩ := hp.sl
    obtain ⟨ak, ck, rfl⟩ := hk.sl
    obtain ⟨ab, cb, rfl⟩ := hb.sl
    obtain ⟨aa, ca, rfl⟩ := ha.sl
    exact ⟨k, n, f, x, ap, _, cp, ak, _, ck, ab, _, cb, aa, _, ca, rfl, rfl, rfl, rfl, rfl, rfl, rfl, rfl⟩
theorem ExsAt.cells {W : World} {K : Nat → Prop} {l : List Ex} {xs : List Value} (h : ExsAt W K l xs) (j : Nat) (hj : j < l.length) : ∃ k nm f u ap np cp ak nk ck ab nb cb aa na ca, ExAt W K l[j] [.int .i64 k, .string (tx nm), .bool f, .int .u64 u, .slice ap np cp, .slice ak nk ck, .slice ab nb cb, .slice aa na ca] ∧
    ∀ i v, [Value.int .i64 k, .string (tx nm), .bool f, .int .u64 u, .slice ap np cp, .slice ak nk ck, .slice ab nb cb, .slice aa na ca][i]? = some v → xs[j * 8 + i]? = some v := by
  obtain ⟨k, nm, f, u, vp, vk, vb, va, h1, z0, z1, z2, z3, z4, z5, z6, z7⟩ := h.at j hj
  obtain ⟨k', nm', f', u', ap, np, cp, ak, nk, ck, ab, nb, cb, aa, na, ca, e0, e1, e2, e3, rfl, rfl, rfl, rfl⟩ := h1.form
  cases e0; cases e1; cases e2; cases e3
  refine ⟨k, nm', f, u, ap, np, cp, ak, nk, ck, ab, nb, cb, aa, na, ca, h1, fun i v hi => ?_⟩
  match i, hi with
  | 0, hi => cases hi; exact z0
  | 1, hi => cases hi; exact z1
  | 2, hi => cases hi; exact z2
  | 3, hi => cases hi; exact z3
  | 4, hi => cases hi; exact z4
  | 5, hi => cases hi; exact z5
  | 6, hi => cases hi; exact z6
  | 7, hi => cases hi; exact z7
theorem BndsAt.cells {W : World} {K : Nat → Prop} {l : List Bnd} {xs : List Value} (h : BndsAt W K l xs) (j : Nat) (hj : j < l.length) : ∃ aq cq k nm f u ap np cp ak nk ck ab nb cb aa na ca, RowAt W K 9 1 (.slice aq l[j].2.1.length cq) l[j].2.1.length (namesV l[j].2.1) ∧ ExAt W K l[j].2.2 [.int .i64 k, .string (tx nm), .bool f, .int .u64 u, .slice ap np cp, .slice ak nk ck, .slice ab nb cb, .slice aa na ca] ∧
    ∀ i v, [Value.string (tx l[j].1), .slice aq l[j].2.1.length cq, .int .i64 k, .string (tx nm), .bool f, .int .u64 u, .slice ap np cp, .slice ak nk ck, .slice ab nb cb, .slice aa na ca][i]? = some v → xs[j * 10 + i]? = some v := by
  obtain ⟨vq, k, nm, f, u, vp, vk, vb, va, h0, h1, z0, z1, z2, z3, z4, z5, z6, z7, z8, z9⟩ := h.at j hj
  obtain ⟨k', nm', f', u', ap, np, cp, ak, nk, ck, ab, nb, cb, aa, na, ca, e0, e1, e2, e3, rfl, rfl, rfl, rfl⟩ := h1.form
  cases e0; cases e1; cases e2; cases e3
  obtain ⟨aq, cq, rfl⟩ := h0.sl
  refine ⟨aq, cq, k, nm', f, u, ap, np, cp, ak, nk, ck, ab, nb, cb, aa, na, ca, h0, h1, fun i v hi => ?_⟩
  match i, hi with
  | 0, hi => cases hi; exact z0
  | 1, hi => cases hi; exact z1
  | 2, hi => cases hi; exact z2
  | 3, hi => cases hi; exact z3
  | 4, hi => cases hi; exact z4
  | 5, hi => cases hi; exact z5
  | 6, hi => cases hi; exact z6
  | 7, hi => cases hi; exact z7
  | 8, hi => cases hi; exact z8
  | 9, hi => cases hi; exact z9
theorem AltsAt.cells {W : World} {K : Nat → Prop} {l : List Alt} {xs : List Value} (h : AltsAt W K l xs) (j : Nat) (hj : j < l.length) : ∃ aq cq k nm f u ap np cp ak nk ck ab nb cb aa na ca, RowAt W K 9 1 (.slice aq l[j].2.2.2.2.1.length cq) l[j].2.2.2.2.1.length (namesV l[j].2.2.2.2.1) ∧ ExAt W K l[j].2.2.2.2.2 [.int .i64 k, .string (tx nm), .bool f, .int .u64 u, .slice ap np cp, .slice ak nk ck, .slice ab nb cb, .slice aa na ca] ∧
    ∀ i v, [Value.int .i64 l[j].1, .string (tx l[j].2.1), .bool l[j].2.2.1, .int .u64 l[j].2.2.2.1, .slice aq l[j].2.2.2.2.1.length cq, .int .i64 k, .string (tx nm), .bool f, .int .u64 u, .slice ap np cp, .slice ak nk ck, .slice ab nb cb, .slice aa na ca][i]? = some v → xs[j * 13 + i]? = some v := by
  obtain ⟨vq, k, nm, f, u, vp, vk, vb, va, h0, h1, z0, z1, z2, z3, z4, z5, z6, z7, z8, z9, z10, z11, z12⟩ := h.at j hj
  obtain ⟨k', nm', f', u', ap, np, cp, ak, nk, ck, ab, nb, cb, aa, na, ca, e0, e1, e2, e3, rfl, rfl, rfl, rfl⟩ := h1.form
  cases e0; cases e1; cases e2; cases e3
  obtain ⟨aq, cq, rfl⟩ := h0.sl
  refine ⟨aq, cq, k, nm', f, u, ap, np, cp, ak, nk, ck, ab, nb, cb, aa, na, ca, h0, h1, fun i v hi => ?_⟩
  match i, hi with
  | 0, hi => cases hi; exact z0
  | 1, hi => cases hi; exact z1
  | 2, hi => cases hi; exact z2
  | 3, hi => cases hi; exact z3
  | 4, hi => cases hi; exact z4
  | 5, hi => cases hi; exact z5
  | 6, hi => cases hi; exact z6
  | 7, hi => cases hi; exact z7
  | 8, hi => cases hi; exact z8
  | 9, hi => cases hi; exact z9
  | 10, hi => cases hi; exact z10
  | 11, hi => cases hi; exact z11
  | 12, hi => cases hi; exact z12
theorem NSet.ne {w : World} {b n k i : Nat} {dom : List Nm} {v : Value} (h : NSet w b n dom) (hc : w.cell? ⟨k, i, none⟩ = some v) : b ≠ k := by
  obtain ⟨D, ⟨es, c, hb, r⟩, h2⟩ := h
  intro e
  subst e
  simp [World.cell?, hb] at hc
def firstF {α : Type} (F : α → Fo) : List α → Fo
  | [] => none
  | x :: r => (F x).or (firstF F r)
def scA (cs sc : List Nm) (a : Alt) : Fo := if a.1 = 0 then (hasF cs a.2.1).or ((twF a.2.2.2.2.1).or (scE cs (sc ++ a.2.2.2.2.1) a.2.2.2.2.2)) else if a.1 = 2 then scE cs (sc ++ [a.2.1]) a.2.2.2.2.2 else scE cs sc a.2.2.2.2.2
theorem nms_len {l : List Nm} (h : Nms l) : ∀ x, x ∈ l → x.length ≤ 100000 := fun x hx => (h x hx).2
theorem one_row {W : World} {B : Nat} {k : Int} {nm : Nm} {f : Bool} {u : Int} {ap : Option Addr} {np cp : Nat} {ak : Option Addr} {nk ck : Nat} {ab : Option Addr} {nb cb : Nat} {aa : Option Addr} {na ca : Nat} (h : W.heap[B]? = some (.cells #[.int .i64 k, .string (tx nm), .bool f, .int .u64 u, .slice ap np cp, .slice ak nk ck, .slice ab nb cb, .slice aa na ca] 34 (0, 0))) : RowAt W (fun _ => True) 34 8 (.slice (some ⟨B, 0, none⟩) 1 1) 1 [.int .i64 k, .string (tx nm), .bool f, .int .u64 u, .slice ap np cp, .slice ak nk ck, .slice ab nb cb, .slice aa na ca] := by
  refine ⟨rfl, Or.inr ⟨B, 0, 1, _, rfl, trivial, h, Nat.le_refl _, by decide, fun j v hj => ?_⟩⟩
  rw [Nat.zero_add, cell_of_row W B j _ _ (0, 0) h]
  simpa using hj
theorem name_row {W : World} {B : Nat} {x : Nm} (h : W.heap[B]? = some (.cells #[.string (tx x)] 9 (0, 0))) : RowAt W (fun _ => True) 9 1 (.slice (some ⟨B, 0, none⟩) 1 1) 1 (namesV [x]) := by
  refine ⟨rfl, Or.inr ⟨B, 0, 1, _, rfl, trivial, h, Nat.le_refl _, by decide, fun j v hj => ?_⟩⟩
  rw [Nat.zero_add, cell_of_row W B j _ _ (0, 0) h]
  simpa [namesV] using hj
theorem wfEs_mem : ∀ {l : List Ex}, wfEs l → ∀ b, b ∈ l → wfE b
  | e :: r, h, b, hb => by
    unfold wfEs at h
    rcases List.mem_cons.1 hb with rfl | hb
    · exact h.1
    · exact wfEs_mem h.2 b hb
theorem wfBs_mem : ∀ {l : List Bnd}, wfBs l → ∀ b, b ∈ l → wB b
  | (n, ps, e) :: r, h, b, hb => by
    unfold wfBs at h
    rcases List.mem_cons.1 hb with rfl | hb
    · exact h.1
    · exact wfBs_mem h.2 b hb
theorem wfAs_mem : ∀ {l : List Alt}, wfAs l → ∀ b, b ∈ l → wA b
  | (k, n, f, x, ns, e) :: r, h, b, hb => by
    unfold wfAs at h
    rcases List.mem_cons.1 hb with rfl | hb
    · exact h.1
    · exact wfAs_mem h.2 b hb
theorem ExAt.opened {W : World} {K : Nat → Prop} {x : Ex} {k : Int} {nm : Nm} {f : Bool} {u : Int} {ap : Option Addr} {np cp : Nat} {ak : Option Addr} {nk ck : Nat} {ab : Option Addr} {nb cb : Nat} {aa : Option Addr} {na ca : Nat} (h : ExAt W K x [.int .i64 k, .string (tx nm), .bool f, .int .u64 u, .slice ap np cp, .slice ak nk ck, .slice ab nb cb, .slice aa na ca]) : ∃ ps ks bl al xk xb xa, x = .mk k nm f u ps ks bl al ∧ np = ps.length ∧ nk = ks.length ∧ nb = bl.length ∧ na = al.length ∧
    RowAt W K 9 1 (.slice ap ps.length cp) ps.length (namesV ps) ∧ RowAt W K 34 8 (.slice ak ks.length ck) ks.length xk ∧ RowAt W K 36 10 (.slice ab bl.length cb) bl.length xb ∧ RowAt W K 51 13 (.slice aa al.length ca) al.length xa ∧ ExsAt W K ks xk ∧ BndsAt W K bl xb ∧ AltsAt W K al xa := by
  generalize hL : [Value.int .i64 k, .string (tx nm), .bool f, .int .u64 u, .slice ap np cp, .slice ak nk ck, .slice ab nb cb, .slice aa na ca] = L at h
  cases h with
  | mk k' n' f' x' ps ks bl al vp vk vb va xk xb xa hp hk hb ha tk tb ta =>
    obtain ⟨ap', cp', rfl⟩ := hp.sl
    obtain ⟨ak', ck', rfl⟩ := hk.sl
    obtain ⟨ab', cb', rfl⟩ := hb.sl
    obtain ⟨aa', ca', rfl⟩ := ha.sl
    simp only [List.cons.injEq, Value.int.injEq, Value.string.injEq, Value.bool.injEq, Value.slice.injEq, and_true, true_and] at hL
    obtain ⟨rfl, h2, rfl, rfl, ⟨rfl, rfl, rfl⟩, ⟨rfl, rfl, rfl⟩, ⟨rfl, rfl, rfl⟩, ⟨rfl, rfl, rfl⟩⟩ := hL
    obtain rfl := tx_inj h2
    exact ⟨ps, ks, bl, al, xk, xb, xa, rfl, rfl, rfl, rfl, rfl, hp, hk, hb, ha, tk, tb, ta⟩
structure NodeOk (n ns : Nat) (k : Int) (nm : Nm) (f : Bool) (u : Int) (ps : List Nm) (ks : List Ex) (bl : List Bnd) (al : List Alt) : Prop where
  sk : ∀ y, y ∈ ks → SizeOf.sizeOf y ≤ n
  sb : ∀ y, y ∈ bl → SizeOf.sizeOf y.2.2 ≤ n
  sa : ∀ y, y ∈ al → SizeOf.sizeOf y.2.2.2.2.2 ≤ n
  wk : ∀ y, y ∈ ks → wfE y
  wb : ∀ y, y ∈ bl → wB y
  wa : ∀ y, y ∈ al → wA y
  wp : Nms ps
  wn : k = 1 ∨ k = 2 ∨ k = 5 → NmOk nm
  wt : ns + ((if k = 1 then 1 else 0) + ps.length + sumN wtE ks + (bl.length + sumN nB bl) + sumN nA al) ≤ 100000
theorem NodeOk.of {n ns : Nat} {k : Int} {nm : Nm} {f : Bool} {u : Int} {ps : List Nm} {ks : List Ex} {bl : List Bnd} {al : List Alt} (hs : SizeOf.sizeOf (Ex.mk k nm f u ps ks bl al) ≤ n + 1) (hw : wfE (.mk k nm f u ps ks bl al)) (ht : ns + wtE (.mk k nm f u ps ks bl al) ≤ 100000) : NodeOk n ns k nm f u ps ks bl al := by
  unfold wfE at hw
  obtain ⟨-, -, w3, w4, w5, w6, w7, -, -⟩ := hw
  rw [wtE_mk, sumN_nB2] at ht
  simp only [Ex.mk.sizeOf_spec] at hs
  refine ⟨fun x hx => ?_, fun x hx => ?_, fun x hx => ?_, wfEs_mem w5, wfBs_mem w6, wfAs_mem w7, w4, w3, ht⟩
  · have := List.sizeOf_lt_of_mem hx
    omega
  · have := List.sizeOf_lt_of_mem hx
    obtain ⟨a, b, c⟩ := x
    simp only [Prod.mk.sizeOf_spec] at this ⊢
    omega
  · have := List.sizeOf_lt_of_mem hx
    obtain ⟨a, b, c, d, e, g⟩ := x
    simp only [Prod.mk.sizeOf_spec] at this ⊢
    omega
theorem func_made : ∀ (fn : Fn) (first cap : Array Value) (w : World), (Instr.makeFunc fn first cap).run Try.prog w = .ok (.func fn first cap) w := fun _ _ _ _ => rfl
def dedup : List Nm → List Nm → List Nm
  | acc, [] => acc
  | acc, x :: r => if x ∈ acc then dedup acc r else dedup (acc ++ [x]) r
def wo (l s : List Nm) : List Nm := l.filter fun x => decide (x ∉ s)
mutual
def outE (bd : List Nm) : Ex → List Nm
  | .mk k n _ _ ps ks bs al =>
    if k = 1 then (if n ∈ bd then [] else [n])
    else if k = 6 then outBs (bd ++ bNames bs) bs ++ outEs (bd ++ bNames bs) ks
    else if k = 7 then outEs bd ks ++ outAs bd al
    else if k = 8 then outEs (bd ++ ps) ks
    else outEs bd ks
def outEs (bd : List Nm) : List Ex → List Nm
  | [] => []
  | e :: r => outE bd e ++ outEs bd r
def outBs (bd : List Nm) : List (Nm × List Nm × Ex) → List Nm
  | [] => []
  | (_, ps, e) :: r => outE (bd ++ ps) e ++ outBs bd r
def outAs (bd : List Nm) : List (Int × Nm × Bool × Int × List Nm × Ex) → List Nm
  | [] => []
  | (k, n, _, _, ns, e) :: r => (if k = 0 then outE (bd ++ ns) e else if k = 2 then outE (bd ++ [n]) e else outE bd e) ++ outAs bd r
end
mutual
def frE : Ex → List Nm
  | .mk k n _ _ ps ks bs al => if k = 1 then [n] else wo (wo (frAs (frEs (frBs [] bs) ks) al) (bNames bs)) ps
def frEs (acc : List Nm) : List Ex → List Nm
  | [] => acc
  | e :: r => frEs (dedup acc (frE e)) r
def frBs (acc : List Nm) : List (Nm × List Nm × Ex) → List Nm
  | [] => acc
  | (_, ps, e) :: r => frBs (dedup acc (wo (frE e) ps)) r
def frAs (acc : List Nm) : List (Int × Nm × Bool × Int × List Nm × Ex) → List Nm
  | [] => acc
  | (k, n, _, _, ns, e) :: r => frAs (dedup acc (wo (frE e) (if k = 2 then [n] else ns))) r
end
def bodyL (ps : List Nm) (e : Ex) : List Nm := dedup [] (outE ps e)
theorem dedup_app : ∀ (a acc b : List Nm), dedup acc (a ++ b) = dedup (dedup acc a) b
  | [], _, _ => rfl
  | x :: a, acc, b => by
    show (if x ∈ acc then dedup acc (a ++ b) else dedup (acc ++ [x]) (a ++ b)) = dedup (if x ∈ acc then dedup acc a else dedup (acc ++ [x]) a) b
    split
    · exact dedup_app a acc b
    · exact dedup_app a _ b
theorem dedup_mem : ∀ (l acc : List Nm) (x : Nm), x ∈ dedup acc l ↔ x ∈ acc ∨ x ∈ l
  | [], acc, x => by simp [dedup]
  | y :: l, acc, x => by
    show x ∈ (if y ∈ acc then dedup acc l else dedup (acc ++ [y]) l) ↔ _
    split
    · rename_i g
      rw [dedup_mem l acc x, List.mem_cons]
      constructor
      · rintro (h | h)
        · exact Or.inl h
        · exact Or.inr (Or.inr h)
      · rintro (h | h | h)
        · exact Or.inl h
        · exact Or.inl (h ▸ g)
        · exact Or.inr h
    · rw [dedup_mem l _ x, List.mem_append, List.mem_singleton, List.mem_cons]
      exact ⟨fun h => by rcases h with (h | h) | h; exact Or.inl h; exact Or.inr (Or.inl h); exact Or.inr (Or.inr h), fun h => by rcases h with h | h | h; exact Or.inl (Or.inl h); exact Or.inl (Or.inr h); exact Or.inr h⟩
theorem dedup_dedup : ∀ (l a acc : List Nm), dedup acc (dedup a l) = dedup (dedup acc a) l
  | [], _, _ => rfl
  | x :: l, a, acc => by
    show dedup acc (if x ∈ a then dedup a l else dedup (a ++ [x]) l) = (if x ∈ dedup acc a then dedup (dedup acc a) l else dedup (dedup acc a ++ [x]) l)
    by_cases g : x ∈ a
    · rw [if_pos g, if_pos ((dedup_mem a acc x).2 (Or.inr g)), dedup_dedup l a acc]
    · rw [if_neg g, dedup_dedup l _ acc, dedup_app]
      show dedup (if x ∈ dedup acc a then dedup (dedup acc a) [] else dedup (dedup acc a ++ [x]) []) l = _
      split <;> rfl
theorem wo_nil (s : List Nm) : wo [] s = [] := rfl
theorem wo_app (a b s : List Nm) : wo (a ++ b) s = wo a s ++ wo b s := List.filter_append ..
theorem wo_mem {l s : List Nm} {x : Nm} : x ∈ wo l s ↔ x ∈ l ∧ x ∉ s := by simp [wo]
theorem wo_wo (l a b : List Nm) : wo (wo l a) b = wo l (b ++ a) := by
  unfold wo
  rw [List.filter_filter]
  congr 1
  funext x
  simp only [List.mem_append, not_or, ← Bool.decide_and]
theorem wo_eq {a b : List Nm} (h : SetEq a b) (l : List Nm) : wo l a = wo l b := by
  unfold wo
  congr 1
  funext x
  simp only [h x]
theorem wo_dedup : ∀ (l acc s : List Nm), wo (dedup acc l) s = dedup (wo acc s) (wo l s)
  | [], _, _ => rfl
  | x :: l, acc, s => by
    show wo (if x ∈ acc then dedup acc l else dedup (acc ++ [x]) l) s = _
    by_cases gs : x ∈ s
    · have e : wo (x :: l) s = wo l s := by simp [wo, gs]
      rw [e]
      split
      · exact wo_dedup l acc s
      · rw [wo_dedup l _ s, wo_app]
        have e2 : wo [x] s = [] := by simp [wo, gs]
        rw [e2, List.append_nil]
    · have e : wo (x :: l) s = x :: wo l s := by simp [wo, gs]
      rw [e]
      show _ = if x ∈ wo acc s then dedup (wo acc s) (wo l s) else dedup (wo acc s ++ [x]) (wo l s)
      by_cases g : x ∈ acc
      · rw [if_pos g, if_pos (wo_mem.2 ⟨g, gs⟩)]
        exact wo_dedup l acc s
      · rw [if_neg g, if_neg (fun h => g (wo_mem.1 h).1), wo_dedup l _ s, wo_app]
        have e2 : wo [x] s = [x] := by simp [wo, gs]
        rw [e2]
mutual
theorem outE_eq {a b : List Nm} (h : SetEq a b) : ∀ (e : Ex), outE a e = outE b e
  | .mk k n f x ps ks bs al => by
    unfold outE
    rw [outBs_eq (h.app (bNames bs)) bs, outEs_eq (h.app (bNames bs)) ks, outEs_eq h ks, outAs_eq h al, outEs_eq (h.app ps) ks]
    by_cases g : n ∈ a
    · rw [if_pos g, if_pos ((h n).1 g)]
    · rw [if_neg g, if_neg (fun e => g ((h n).2 e))]
theorem outEs_eq {a b : List Nm} (h : SetEq a b) : ∀ (l : List Ex), outEs a l = outEs b l
  | [] => by unfold outEs; rfl
  | e :: r => by unfold outEs; rw [outE_eq h e, outEs_eq h r]
theorem outBs_eq {a b : List Nm} (h : SetEq a b) : ∀ (l : List (Nm × List Nm × Ex)), outBs a l = outBs b l
  | [] => by unfold outBs; rfl
  | (n, ps, e) :: r => by unfold outBs; rw [outE_eq (h.app ps) e, outBs_eq h r]
theorem outAs_eq {a b : List Nm} (h : SetEq a b) : ∀ (l : List (Int × Nm × Bool × Int × List Nm × Ex)), outAs a l = outAs b l
  | [] => by unfold outAs; rfl
  | (k, n, f, x, ns, e) :: r => by unfold outAs; rw [outE_eq (h.app ns) e, outE_eq (h.app [n]) e, outE_eq h e, outAs_eq h r]
end
theorem setEq_comm (a b : List Nm) : SetEq (a ++ b) (b ++ a) := fun x => by simp only [List.mem_append]; exact Or.comm
mutual
theorem fr_out : ∀ (e : Ex) (bd : List Nm), wfE e → wo (frE e) bd = dedup [] (outE bd e)
  | .mk k n f x ps ks bs al, bd, h => by
    unfold wfE at h
    obtain ⟨h1, h2, -, -, h5, h6, h7, h8, h9⟩ := h
    unfold frE outE
    by_cases g1 : k = 1
    · rw [if_pos g1, if_pos g1]
      by_cases g : n ∈ bd
      · rw [if_pos g]
        simp [wo, g, dedup]
      · rw [if_neg g]
        simp [wo, g, dedup]
    rw [if_neg g1, if_neg g1, wo_wo, wo_wo, frAs_out al _ _ h7, frEs_out ks _ _ h5, frBs_out bs _ _ h6, wo_nil, ← dedup_app, ← dedup_app]
    by_cases g6 : k = 6
    · rw [if_pos g6, h2 (by omega), h9 (by omega)]
      simp only [List.append_nil]
      have e : outAs (bd ++ bNames bs) [] = [] := by unfold outAs; rfl
      rw [e, List.append_nil]
    rw [if_neg g6, h8 g6]
    have e6 : ∀ S, outBs S [] = [] := fun S => by unfold outBs; rfl
    have e7 : ∀ S, outAs S [] = [] := fun S => by unfold outAs; rfl
    rw [e6]
    show dedup [] ([] ++ outEs ((bd ++ ps) ++ []) ks ++ outAs ((bd ++ ps) ++ []) al) = _
    rw [List.append_nil, List.nil_append]
    by_cases g7 : k = 7
    · rw [if_pos g7, h9 (by omega), List.append_nil]
    rw [if_neg g7, h2 g7, e7, List.append_nil]
    by_cases g8 : k = 8
    · rw [if_pos g8]
    · rw [if_neg g8, h9 g8, List.append_nil]
theorem frEs_out : ∀ (l : List Ex) (acc bd : List Nm), wfEs l → wo (frEs acc l) bd = dedup (wo acc bd) (outEs bd l)
  | [], _, _, _ => by unfold frEs outEs; rfl
  | e :: r, acc, bd, h => by
    unfold wfEs at h
    unfold frEs outEs
    rw [frEs_out r _ bd h.2, wo_dedup, fr_out e bd h.1, dedup_dedup, dedup_app]
    rfl
theorem frBs_out : ∀ (l : List (Nm × List Nm × Ex)) (acc bd : List Nm), wfBs l → wo (frBs acc l) bd = dedup (wo acc bd) (outBs bd l)
  | [], _, _, _ => by unfold frBs outBs; rfl
  | (n, ps, e) :: r, acc, bd, h => by
    unfold wfBs at h
    unfold frBs outBs
    rw [frBs_out r _ bd h.2, wo_dedup, wo_wo, fr_out e _ h.1.2.2, dedup_dedup, dedup_app]
    rfl
theorem frAs_out : ∀ (l : List (Int × Nm × Bool × Int × List Nm × Ex)) (acc bd : List Nm), wfAs l → wo (frAs acc l) bd = dedup (wo acc bd) (outAs bd l)
  | [], _, _, _ => by unfold frAs outAs; rfl
  | (k, n, f, x, ns, e) :: r, acc, bd, h => by
    unfold wfAs at h
    unfold frAs outAs
    rw [frAs_out r _ bd h.2, wo_dedup, wo_wo, fr_out e _ h.1.2.2, dedup_dedup, dedup_app]
    by_cases g2 : k = 2
    · rw [if_pos g2, if_neg (by omega), if_pos g2]; rfl
    · rw [if_neg g2, if_neg g2]
      by_cases g0 : k = 0
      · rw [if_pos g0]; rfl
      · rw [if_neg g0, h.1.2.1.2 g0, List.append_nil]; rfl
end
theorem app_swap (a b c : List Nm) : SetEq (a ++ b ++ c) (a ++ c ++ b) := fun x => by
  simp only [List.mem_append]
  constructor
  · rintro ((h | h) | h); exact Or.inl (Or.inl h); exact Or.inr h; exact Or.inl (Or.inr h)
  · rintro ((h | h) | h); exact Or.inl (Or.inl h); exact Or.inr h; exact Or.inl (Or.inr h)
mutual
theorem outE_wo (s : List Nm) : ∀ (e : Ex) (bd : List Nm), wo (outE bd e) s = outE (bd ++ s) e
  | .mk k n f x ps ks bs al, bd => by
    unfold outE
    split
    · by_cases g : n ∈ bd
      · rw [if_pos g, if_pos (List.mem_append.2 (Or.inl g))]; rfl
      · rw [if_neg g]
        by_cases gs : n ∈ s
        · rw [if_pos (List.mem_append.2 (Or.inr gs))]; simp [wo, gs]
        · rw [if_neg (fun h => by rcases List.mem_append.1 h with h | h; exact g h; exact gs h)]; simp [wo, gs]
    split
    · rw [wo_app, outBs_wo s bs, outEs_wo s ks, outBs_eq (app_swap _ _ _) bs, outEs_eq (app_swap _ _ _) ks]
    split
    · rw [wo_app, outEs_wo s ks, outAs_wo s al]
    split
    · rw [outEs_wo s ks, outEs_eq (app_swap _ _ _) ks]
    · exact outEs_wo s ks bd
theorem outEs_wo (s : List Nm) : ∀ (l : List Ex) (bd : List Nm), wo (outEs bd l) s = outEs (bd ++ s) l
  | [], _ => by unfold outEs; rfl
  | e :: r, bd => by unfold outEs; rw [wo_app, outE_wo s e, outEs_wo s r]
theorem outBs_wo (s : List Nm) : ∀ (l : List (Nm × List Nm × Ex)) (bd : List Nm), wo (outBs bd l) s = outBs (bd ++ s) l
  | [], _ => by unfold outBs; rfl
  | (n, ps, e) :: r, bd => by unfold outBs; rw [wo_app, outE_wo s e, outBs_wo s r, outE_eq (app_swap _ _ _) e]
theorem outAs_wo (s : List Nm) : ∀ (l : List (Int × Nm × Bool × Int × List Nm × Ex)) (bd : List Nm), wo (outAs bd l) s = outAs (bd ++ s) l
  | [], _ => by unfold outAs; rfl
  | (k, n, f, x, ns, e) :: r, bd => by
    unfold outAs
    rw [wo_app, outAs_wo s r]
    congr 1
    split
    · rw [outE_wo s e, outE_eq (app_swap _ _ _) e]
    split
    · rw [outE_wo s e, outE_eq (app_swap _ _ _) e]
    · exact outE_wo s e bd
end
theorem bodyL_wo (ps s : List Nm) (e : Ex) : wo (bodyL ps e) s = bodyL (ps ++ s) e := by
  unfold bodyL
  rw [wo_dedup, wo_nil, outE_wo]
theorem bodyL_nil (s : List Nm) (e : Ex) : wo (bodyL [] e) s = bodyL s e := by rw [bodyL_wo, List.nil_append]
theorem bodyL_fr {e : Ex} (h : wfE e) (ps : List Nm) : wo (frE e) ps = bodyL ps e := fr_out e ps h
theorem wo_no (l : List Nm) : wo l [] = l := by
  unfold wo
  rw [List.filter_eq_self]
  intro x _
  simp
theorem freeL_fr {e : Ex} (h : wfE e) : frE e = bodyL [] e := by rw [← bodyL_fr h [], wo_no]
theorem outEs_nil (bd : List Nm) : outEs bd [] = [] := by unfold outEs; rfl
theorem outEs_cons (bd : List Nm) (e : Ex) (r : List Ex) : outEs bd (e :: r) = outE bd e ++ outEs bd r := by conv => lhs; unfold outEs
theorem outBs_nil (bd : List Nm) : outBs bd [] = [] := by unfold outBs; rfl
theorem outBs_cons (bd : List Nm) (n : Nm) (ps : List Nm) (e : Ex) (r : List Bnd) : outBs bd ((n, ps, e) :: r) = outE (bd ++ ps) e ++ outBs bd r := by conv => lhs; unfold outBs
theorem outE_mk (bd : List Nm) (k : Int) (n : Nm) (f : Bool) (x : Int) (ps : List Nm) (ks : List Ex) (bs : List Bnd) (al : List Alt) : outE bd (.mk k n f x ps ks bs al) = (if k = 1 then (if n ∈ bd then [] else [n]) else if k = 6 then outBs (bd ++ bNames bs) bs ++ outEs (bd ++ bNames bs) ks else if k = 7 then outEs bd ks ++ outAs bd al else if k = 8 then outEs (bd ++ ps) ks else outEs bd ks) := by conv => lhs; unfold outE
theorem lam_own (s : List Nm) (e : Ex) : bodyL [] (.mk 8 [] false 0 s [e] [] []) = bodyL s e := by
  unfold bodyL
  rw [outE_mk, if_neg (by decide), if_neg (by decide), if_neg (by decide), if_pos rfl, outEs_cons, outEs_nil, List.append_nil, List.nil_append]
theorem lam_free (nm : Nm) (e : Ex) : bodyL [] (.mk 8 [] false 0 [nm] [e] [] []) = wo (bodyL [] e) [nm] := by
  rw [bodyL_nil, lam_own]
theorem let_free (nm : Nm) (e : Ex) : bodyL [] (.mk 6 [] false 0 [] [.leaf 1 nm] [(nm, [], e)] []) = wo (bodyL [] e) [nm] := by
  rw [bodyL_nil]
  have e2 : outE [nm] (.leaf 1 nm) = [] := by
    show outE [nm] (.mk 1 nm false 0 [] [] [] []) = []
    rw [outE_mk, if_pos rfl, if_pos (List.mem_singleton.2 rfl)]
  unfold bodyL
  rw [outE_mk, if_neg (by decide), if_pos rfl, outBs_cons, outBs_nil, outEs_cons, outEs_nil, List.append_nil, List.append_nil, List.append_nil]
  show dedup [] (outE [nm] e ++ outE [nm] (.leaf 1 nm)) = _
  rw [e2, List.append_nil]
theorem app_free (x y : Ex) : bodyL [] (.mk 4 [] false 0 [] [x, y] [] []) = dedup (bodyL [] x) (bodyL [] y) := by
  unfold bodyL
  rw [outE_mk, if_neg (by decide), if_neg (by decide), if_neg (by decide), if_neg (by decide), outEs_cons, outEs_cons, outEs_nil, List.append_nil, dedup_app, dedup_dedup]
  rfl
def NmV (x : Nm) : Prop := True ∧ x.length ≤ 140737488355328
def Nmv (l : List Nm) : Prop := ∀ x, x ∈ l → NmV x
mutual
def wvE : Ex → Prop
  | .mk k n _ _ ps ks bs al => (k = 1 ∨ k = 2 ∨ k = 5 → NmV n) ∧ Nmv ps ∧ wvEs ks ∧ wvBs bs ∧ wvAs al
def wvEs : List Ex → Prop
  | [] => True
  | e :: r => wvE e ∧ wvEs r
def wvBs : List (Nm × List Nm × Ex) → Prop
  | [] => True
  | (n, ps, e) :: r => (NmV n ∧ Nmv ps ∧ wvE e) ∧ wvBs r
def wvAs : List (Int × Nm × Bool × Int × List Nm × Ex) → Prop
  | [] => True
  | (k, n, _, _, ns, e) :: r => ((k = 0 ∨ k = 2 → NmV n) ∧ (Nmv ns ∧ True) ∧ wvE e) ∧ wvAs r
end
abbrev wvB (b : Bnd) : Prop := NmV b.1 ∧ Nmv b.2.1 ∧ wvE b.2.2
abbrev wvA (a : Alt) : Prop := (a.1 = 0 ∨ a.1 = 2 → NmV a.2.1) ∧ (Nmv a.2.2.2.2.1 ∧ True) ∧ wvE a.2.2.2.2.2
theorem NmOk.v {x : Nm} (h : NmOk x) : NmV x := ⟨trivial, by have := h.2; omega⟩
theorem Nms.v {l : List Nm} (h : Nms l) : Nmv l := fun x hx => (h x hx).v
theorem nmv_len {l : List Nm} (h : Nmv l) : ∀ x, x ∈ l → x.length ≤ 140737488355328 := fun x hx => (h x hx).2
mutual
theorem wvE_of : ∀ (e : Ex), wfE e → wvE e
  | .mk k n f x ps ks bs al, h => by
    unfold wfE at h
    obtain ⟨-, -, h3, h4, h5, h6, h7, -, -⟩ := h
    unfold wvE
    exact ⟨fun g => (h3 g).v, h4.v, wvEs_of ks h5, wvBs_of bs h6, wvAs_of al h7⟩
theorem wvEs_of : ∀ (l : List Ex), wfEs l → wvEs l
  | [], _ => by unfold wvEs; trivial
  | e :: r, h => by
    unfold wfEs at h
    unfold wvEs
    exact ⟨wvE_of e h.1, wvEs_of r h.2⟩
theorem wvBs_of : ∀ (l : List (Nm × List Nm × Ex)), wfBs l → wvBs l
  | [], _ => by unfold wvBs; trivial
  | (n, ps, e) :: r, h => by
    unfold wfBs at h
    unfold wvBs
    exact ⟨⟨h.1.1.v, h.1.2.1.v, wvE_of e h.1.2.2⟩, wvBs_of r h.2⟩
theorem wvAs_of : ∀ (l : List (Int × Nm × Bool × Int × List Nm × Ex)), wfAs l → wvAs l
  | [], _ => by unfold wvAs; trivial
  | (k, n, f, x, ns, e) :: r, h => by
    unfold wfAs at h
    unfold wvAs
    exact ⟨⟨fun g => (h.1.1 g).v, ⟨h.1.2.1.1.v, trivial⟩, wvE_of e h.1.2.2⟩, wvAs_of r h.2⟩
end
theorem wvEs_mem : ∀ {l : List Ex}, wvEs l → ∀ b, b ∈ l → wvE b
  | e :: r, h, b, hb => by
    unfold wvEs at h
    rcases List.mem_cons.1 hb with rfl | hb
    · exact h.1
    · exact wvEs_mem h.2 b hb
theorem wvBs_mem : ∀ {l : List Bnd}, wvBs l → ∀ b, b ∈ l → wvB b
  | (n, ps, e) :: r, h, b, hb => by
    unfold wvBs at h
    rcases List.mem_cons.1 hb with rfl | hb
    · exact h.1
    · exact wvBs_mem h.2 b hb
theorem wvAs_mem : ∀ {l : List Alt}, wvAs l → ∀ b, b ∈ l → wvA b
  | (k, n, f, x, ns, e) :: r, h, b, hb => by
    unfold wvAs at h
    rcases List.mem_cons.1 hb with rfl | hb
    · exact h.1
    · exact wvAs_mem h.2 b hb
structure NodeV (n ns : Nat) (k : Int) (nm : Nm) (f : Bool) (u : Int) (ps : List Nm) (ks : List Ex) (bl : List Bnd) (al : List Alt) : Prop where
  sk : ∀ y, y ∈ ks → SizeOf.sizeOf y ≤ n
  sb : ∀ y, y ∈ bl → SizeOf.sizeOf y.2.2 ≤ n
  sa : ∀ y, y ∈ al → SizeOf.sizeOf y.2.2.2.2.2 ≤ n
  wk : ∀ y, y ∈ ks → wvE y
  wb : ∀ y, y ∈ bl → wvB y
  wa : ∀ y, y ∈ al → wvA y
  wp : Nmv ps
  wn : k = 1 ∨ k = 2 ∨ k = 5 → NmV nm
  wt : ns + ((if k = 1 then 1 else 0) + ps.length + sumN wtE ks + (bl.length + sumN nB bl) + sumN nA al) ≤ 100000
theorem NodeV.of {n ns : Nat} {k : Int} {nm : Nm} {f : Bool} {u : Int} {ps : List Nm} {ks : List Ex} {bl : List Bnd} {al : List Alt} (hs : SizeOf.sizeOf (Ex.mk k nm f u ps ks bl al) ≤ n + 1) (hw : wvE (.mk k nm f u ps ks bl al)) (ht : ns + wtE (.mk k nm f u ps ks bl al) ≤ 100000) : NodeV n ns k nm f u ps ks bl al := by
  unfold wvE at hw
  obtain ⟨w3, w4, w5, w6, w7⟩ := hw
  rw [wtE_mk, sumN_nB2] at ht
  simp only [Ex.mk.sizeOf_spec] at hs
  refine ⟨fun x hx => ?_, fun x hx => ?_, fun x hx => ?_, wvEs_mem w5, wvBs_mem w6, wvAs_mem w7, w4, w3, ht⟩
  · have := List.sizeOf_lt_of_mem hx
    omega
  · have := List.sizeOf_lt_of_mem hx
    obtain ⟨a, b, c⟩ := x
    simp only [Prod.mk.sizeOf_spec] at this ⊢
    omega
  · have := List.sizeOf_lt_of_mem hx
    obtain ⟨a, b, c, d, e, g⟩ := x
    simp only [Prod.mk.sizeOf_spec] at this ⊢
    omega
theorem nkey_v (x : Nm) (hs : x.length ≤ 140737488355328) : keyOf Try.prog 9 (.string (tx x)) = some (.string x) := by
  have h := WideMaps.keyOf_string_mk (P := Try.prog) Try.underlying9 (s := tx x) (by
    have : (tx x).size = x.length := by simp [tx, ByteArray.size]
    rw [this]; unfold maxLen; omega)
  rwa [tx_list] at h
theorem NSet.lookm {w : World} {b n : Nat} {dom : List Nm} (h : NSet w b n dom) (x : Nm) (hx : x.length ≤ 140737488355328) :
    (Instr.lookup 52 (.map (some b)) (.string (tx x)) false).run Try.prog w = .ok (.bool (decide (x ∈ dom))) w := by
  obtain ⟨D, h1, h2⟩ := h
  obtain ⟨v, ps, hr, hv⟩ := h1.lookup (Maps.string_keyed Try.underlying9) Try.underlying52 (nzero_bool _) (plainElem_bool Try.underlying4 false) (nkey_v x hx)
  obtain ⟨a, rfl, ha⟩ := nplain_bool_inv Try.underlying4 hv
  rw [h2] at ha
  simp only [Prod.mk.injEq, DataW.lit.injEq, Lit.bool.injEq] at ha
  rw [← ha.1] at hr
  exact hr
theorem wp_mput {ops : Array Oper} {rest : List Oper} {o : Oper} {a : Act} {Q : Exit → Act → World → Prop} (w : World) (hg : o.guard = none) (m x v : Operand) (hop : o.op = Op.mapUpdate 52 m x v)
    (b n : Nat) (dom : List Nm) (hm : a.eval m = .map (some b)) (h : NSet w b n dom) (hn : n < 100000000) (k : Nm) (hx : a.eval x = .string (tx k)) (hv : a.eval v = .bool true) (hk : k.length ≤ 140737488355328)
    (hK : ∀ w', NSet w' b (n + 1) (dom ++ [k]) → w.grownBy w' (some b) → wpList Try.prog ops Q rest (a.put o.dst undef) w') : wpList Try.prog ops Q (o :: rest) a w := by
  obtain ⟨D, h1, h2⟩ := h
  refine wpList_mapUpdate_own w hg m x v _ hop 9 4 (Maps.string_keyed Try.underlying9) Try.underlying52 _ b n D hm h1 (by unfold maxLen; omega) _ _ (.string k) hx hv (nkey_v k hk) (.lit (.bool true)) [] (plainElem_bool Try.underlying4 true) ?_
  intro w' h1' hg'
  refine hK w' ⟨_, h1', fun y => ?_⟩ hg'
  have hT := h1.tidy (Maps.string_keyed Try.underlying9)
  by_cases e : y = k
  · subst e
    rw [Maps.atKey_put_same hT.isMap (by trivial)]
    simp
  · rw [Maps.atKey_put_other (by simpa using e), h2]
    simp [e]
theorem wp_mdel {ops : Array Oper} {rest : List Oper} {o : Oper} {a : Act} {Q : Exit → Act → World → Prop} (w : World) (hg : o.guard = none) (m x : Operand) (hop : o.op = Op.call { callee := Callee.builtin Builtin.delete, args := #[m, x], argTypes := #[52, 9] })
    (b n : Nat) (dom : List Nm) (hm : a.eval m = .map (some b)) (h : NSet w b n dom) (k : Nm) (hx : a.eval x = .string (tx k)) (hk : k.length ≤ 140737488355328)
    (hK : ∀ w', NSet w' b n (wo dom [k]) → w.grownBy w' (some b) → wpList Try.prog ops Q rest (a.put o.dst (.tuple #[])) w') : wpList Try.prog ops Q (o :: rest) a w := by
  obtain ⟨D, h1, h2⟩ := h
  refine wpList_delete_own w hg m x _ _ hop 4 (Maps.string_keyed Try.underlying9) Try.underlying52 _ b n D hm h1 _ _ hx (nkey_v k hk) ?_
  intro w' h1' hg'
  refine hK w' ⟨_, h1', fun y => ?_⟩ hg'.grown
  by_cases e : y = k
  · subst e
    rw [Maps.atKey_del_same]
    have : y ∉ wo dom [y] := fun h => (wo_mem.1 h).2 (List.mem_singleton.2 rfl)
    simp [this]
  · rw [Maps.atKey_del_other (by simpa using e), h2]
    have : y ∈ wo dom [k] ↔ y ∈ dom := by rw [wo_mem]; simp [e]
    simp only [this]
theorem wo_snoc (l s : List Nm) (x : Nm) : wo (wo l s) [x] = wo l (s ++ [x]) := by
  rw [wo_wo]
  exact wo_eq (setEq_comm _ _) l
theorem unbind_d (b n : Nat) (dom F : List Nm) (hF : ∀ x, x ∈ F → x.length ≤ 140737488355328) (hn : F.length ≤ 100000000) (tl : Value) (m : FrameMode) (a : Option Addr) (c : Nat) (K : Nat → Prop) (hK : ∀ g, K g → g ≠ b) (w : World) (hs : NSet w b n dom) (hr : RowAt w K 9 1 (.slice a F.length c) F.length (namesV F)) :
    CallsD Try.prog 40 #[.agg #[.map (some b), tl], .slice a F.length c] m w fun e m' w' => m' = m ∧ (∃ v, e = .returned v) ∧ NSet w' b n (wo dom F) ∧ w.grownBy w' (some b) := by
  have hx := (Below.refl w.heap.size w).alloc Nr (.cells #[.map (some b), tl] 72)
  have hB := BoxW.alloc w #[.map (some b), tl] 72
  have hlt := hs.lt
  have HL := Hd hF
  have hmx := hr.cap
  unfold maxLen at hmx
  have HX := Hd (Ai hx (Ai hB (Ai (hs.later hx) (hr.move fun g hk lt => ⟨hk, hx.block g lt⟩))))
  clear hx hs hr hB hF
  go_enter_d Try.func40, Try.ntmps40
  go_upto_region 1 with fail
  generalize (w.alloc (.cells #[.map (some b), tl] 72)) = W at *
  have d0 : W.cell? ⟨w.heap.size, 0, none⟩ = some (.map (some b)) := HX.out.2.1.1 0 _ rfl
  have HD := Hd d0
  clear d0
  go_wp2_with fail
  go_loopw [8] (fun s wr => ∃ j : Nat, j ≤ F.length ∧ s = .int .i64 j ∧ NSet wr b n (wo dom (F.take j)) ∧ W.grownBy wr (some b)) (fun s _ => F.length - (RowKit.intOf s).toNat)
  case atStart => exact ⟨0, Nat.zero_le _, rfl, by rw [List.take_zero, wo_no]; exact HX.out.2.2.1, grown_of Br⟩
  case round =>
    obtain ⟨j, hj, rfl, hs1, hg⟩ := hrel
    have HR := Hd (Ai hs1 hg)
    have hb0 := hg.cell HD.out (by show some w.heap.size ≠ some b; intro e; have := Oi e; omega)
    clear hs1 hg
    by_cases gj : j < F.length
    · have gj' : (j : Int) < (F.length : Int) := by omega
      obtain ⟨g1, o1, ea1, k1, m1', -, ht1⟩ := (HX.out.2.2.2.past HR.out.2 hK).at (by omega)
      subst ea1
      have p0 := ht1 j _ (namesV_get gj)
      have HT := Hd (show F.take (j + 1) = F.take j ++ [F[j]] from List.take_succ_eq_append_getElem gj)
      have hlx := HL.out F[j] (List.getElem_mem gj)
      clear ht1
      generalize F[j] = tk at *
      have ej : IntKind.i64.wrap ((j : Int) + 1) = (j : Int) + 1 := by rw [IntKind.wrap_i64]; omega
      have b0 : (0 : Int) ≤ (j : Int) := by omega
      go_wp2_with (at_delete; refine wp_mdel _ rfl _ _ rfl b n (wo dom (F.take j)) rfl HR.out.1 tk rfl hlx ?_; intro w4 h4 g4)
      refine ⟨⟨j + 1, by omega, by go_num, ?_, Gt HR.out.2 g4⟩, by simp [RowKit.intOf]; omega⟩
      rw [HT.out, ← wo_snoc]
      exact h4
    · obtain rfl : j = F.length := by omega
      go_wp2_with fail
      have h := HR.out.1
      rw [List.take_length] at h
      exact Go.Great.bodyPost_end0 rfl rfl ⟨⟨_, rfl⟩, h, Gt (grown_of HX.out.1) HR.out.2⟩
theorem dedup_snoc (acc l : List Nm) (x : Nm) : dedup acc (l ++ [x]) = if x ∈ dedup acc l then dedup acc l else dedup acc l ++ [x] := by
  rw [dedup_app]
  show (if x ∈ dedup acc l then dedup (dedup acc l) [] else dedup (dedup acc l ++ [x]) []) = _
  rfl
theorem grown_two {w w1 w2 : World} {b : Nat} {o : Option Nat} (h : w.grownBy w1 (some b)) (h2 : w1.grownBy w2 o) (hne : ∀ g, o = some g → w.heap.size ≤ g) : w.grownBy w2 (some b) :=
  ⟨h2.os.trans h.os, h2.tape.trans h.tape, h2.output.trans h.output, Nt h.size h2.size, fun k hk e => (h2.block k (Nat.lt_of_lt_of_le hk h.size) (fun e' => by have := hne k e'.symm; omega)).trans (h.block k hk e)⟩
def BindSaid (b n : Nat) (dom l : List Nm) (w : World) (e : Ending) (w' : World) : Prop :=
  ∃ F v, e = .returned v ∧ dedup dom l = dom ++ F ∧ F.length ≤ l.length ∧ (∀ x, x ∈ F → x ∈ l ∧ x ∉ dom) ∧ w'.ownsRow w.heap.size 9 1 v F.length (namesV F) ∧ NSet w' b (n + l.length) (dom ++ F) ∧ w.grownBy w' (some b)
theorem bind_any (b n : Nat) (dom l : List Nm) (hl : ∀ x, x ∈ l → x.length ≤ 140737488355328) (hn : n + l.length ≤ 10000000) (tl : Value) (a : Option Addr) (c : Nat) (K : Nat → Prop) (hK : ∀ g, K g → g ≠ b) (w : World) (hs : NSet w b n dom) (hr : RowAt w K 9 1 (.slice a l.length c) l.length (namesV l)) :
    Calls Try.prog 41 #[.agg #[.map (some b), tl], .slice a l.length c] w (BindSaid b n dom l w) := by
  have hx := (Below.refl w.heap.size w).alloc Nr (.cells #[.map (some b), tl] 72)
  have hB := BoxW.alloc w #[.map (some b), tl] 72
  have hlt := hs.lt
  have HL := Hd hl
  obtain ⟨i0, hi0, hz0, hzs, hzb⟩ := info_parts Try.info_text
  have hmx := hr.cap
  unfold maxLen at hmx
  have HX := Hd (Ai hx (Ai hB (Ai (hs.later hx) (hr.move fun g hk lt => ⟨hk, hx.block g lt⟩))))
  have hzW : (w.alloc (.cells #[.map (some b), tl] 72)).heap.size = w.heap.size + 1 := by simp
  clear hx hs hr hB hl
  go_enter Try.func41, Try.ntmps41
  go_upto_region 1 with fail
  generalize (w.alloc (.cells #[.map (some b), tl] 72)) = W at *
  have d0 : W.cell? ⟨w.heap.size, 0, none⟩ = some (.map (some b)) := HX.out.2.1.1 0 _ rfl
  have HD := Hd d0
  clear d0
  go_wp2_with fail
  go_loopw [5, 10] (fun s2 s3 wr => ∃ (j : Nat) (F : List Nm) (vv : Value), j ≤ l.length ∧ vv = s2 ∧ s3 = .int .i64 j ∧ dedup dom (l.take j) = dom ++ F ∧ F.length ≤ j ∧ (∀ x, x ∈ F → x ∈ l ∧ x ∉ dom) ∧ wr.ownsRow W.heap.size 9 1 vv F.length (namesV F) ∧ NSet wr b (n + j) (dom ++ F) ∧ W.grownBy wr (some b)) (fun _ s3 _ => l.length - (RowKit.intOf s3).toNat)
  case atStart => exact ⟨0, [], _, Nat.zero_le _, rfl, rfl, by rw [List.take_zero, List.append_nil]; rfl, Nat.le_refl _, (fun x hx => by cases hx), World.ownsRow_nil _ _ _ _, by rw [List.append_nil]; exact HX.out.2.2.1, grown_of Br⟩
  case round =>
    obtain ⟨j, F, vv, hj, rfl, rfl, hdd, hFj, hFl, hown, hs1, hg⟩ := hrel
    obtain ⟨av, cc, rfl, hlow⟩ := own_shape hown
    have hb0 := hg.cell HD.out (by show some w.heap.size ≠ some b; intro e; have := Oi e; omega)
    have hzr := hg.size
    have HR := Hd (Ai hs1 (Ai hg (Ai hown (Ai hlow (Ai hdd hFl)))))
    clear hs1 hg hown hlow hdd hFl
    by_cases gj : j < l.length
    · have gj' : (j : Int) < (l.length : Int) := by omega
      obtain ⟨g1, o1, ea1, k1, m1', -, ht1⟩ := (HX.out.2.2.2.past HR.out.2.1 hK).at (by omega)
      subst ea1
      have p0 := ht1 j _ (namesV_get gj)
      have HT := Hd (show l.take (j + 1) = l.take j ++ [l[j]] from List.take_succ_eq_append_getElem gj)
      have hlx := HL.out l[j] (List.getElem_mem gj)
      have HM := Hd (show l[j] ∈ l from List.getElem_mem gj)
      clear ht1
      generalize l[j] = tk at *
      have ej : IntKind.i64.wrap ((j : Int) + 1) = (j : Int) + 1 := by rw [IntKind.wrap_i64]; omega
      have b0 : (0 : Int) ≤ (j : Int) := by omega
      have hlk := HR.out.1.lookm tk hlx
      by_cases g : tk ∈ dom ++ F
      · have HG := Hd g
        rw [decide_eq_true g] at hlk
        clear g
        go_wp2_with fail
        refine ⟨⟨j + 1, F, _, by omega, rfl, by go_num, ?_, by omega, HR.out.2.2.2.2.2, HR.out.2.2.1, ?_, HR.out.2.1⟩, by simp [RowKit.intOf]; omega⟩
        · rw [HT.out, dedup_snoc, HR.out.2.2.2.2.1, if_pos HG.out]
        · obtain ⟨D, h1, h2⟩ := HR.out.1
          exact ⟨D, h1.mono (by omega), h2⟩
      · have HG := Hd g
        rw [decide_eq_false g] at hlk
        clear g
        have one1 : ∀ u ∈ [Value.string (tx tk)], u.oneCell' = true := by intro u hu; simp at hu; rw [hu]; rfl
        have m9 : F.length + 1 ≤ maxLen := by unfold maxLen; omega
        have m8 : (F.length + 1) * 16 ≤ 140737488355328 := by omega
        go_upto_region 7 with (refine wp_mput _ rfl _ _ _ rfl b (n + j) (dom ++ F) rfl HR.out.1 (by omega) tk rfl rfl hlx ?_; intro w4 h4 g4)
        have H4 := Hd (Ai h4 g4)
        have H5 := Hd ((Below.refl w4.heap.size w4).alloc Nr (.cells #[.string (tx tk)] 9))
        have hz5 := H5.out.size
        have hz4 := g4.size
        have HO5 := Hd (own_below (HR.out.2.2.1.kept g4 (Or.inr fun e => by have := HR.out.2.2.2.1 b e; omega)) H5.out)
        clear h4 g4
        go_wp2_with (at_builtin; refine wpList_append_lies _ rfl _ _ 22 rfl W.heap.size 9 i0 (.string ⟨#[]⟩) 1 16 Try.underlying22 hi0 hz0 hzs hzb rfl (by decide) (.slice av F.length cc) F.length (namesV F) rfl HO5.out ⟨w4.heap.size, 0, none⟩ 1 1 [.string (tx tk)] rfl rfl (World.news_of_block (heap_alloc_new _ _)) one1 (by decide) m9 m8 (by omega) _ rfl ?_; intro g9 cap9 w9 o1 o2 o3 o4)
        refine ⟨⟨j + 1, F ++ [tk], _, by omega, rfl, by go_num, ?_, by simp; omega, ?_, ?_, ?_, ?_⟩, by simp [RowKit.intOf]; omega⟩
        · rw [HT.out, dedup_snoc, HR.out.2.2.2.2.1, if_neg HG.out, List.append_assoc]
        · intro x hx
          rcases List.mem_append.1 hx with h | h
          · exact HR.out.2.2.2.2.2 x h
          · rw [List.mem_singleton.1 h]; exact ⟨HM.out, fun e => HG.out (List.mem_append.2 (Or.inl e))⟩
        · have h := o1
          simp only [List.length_append, List.length_cons, List.length_nil, namesV, List.map_append, List.map_cons, List.map_nil] at h ⊢
          exact h
        · have h := H4.out.1.later H5.out
          have h9 := h.same (o2.block b (by simp only [World.size_alloc]; omega) (fun e => by have := HR.out.2.2.2.1 b e.symm; omega))
          rw [← List.append_assoc]
          exact h9
        · exact grown_two (Gt (Gt HR.out.2.1 H4.out.2) (grown_of H5.out)) o2 (fun g e => HR.out.2.2.2.1 g e)
    · obtain rfl : j = l.length := by omega
      go_wp2_with fail
      go_ret
      have h := HR.out.2.2.2.2.1
      rw [List.take_length] at h
      exact ⟨F, _, rfl, h, hFj, HR.out.2.2.2.2.2, World.ownsRow.mono HR.out.2.2.1 (by omega), HR.out.1, Gt (grown_of HX.out.1) HR.out.2.1⟩
structure Step (M : Nat → Prop) (z : Nat) (b r : Option Nat) (W : World) (r' : Option Nat) (W' : World) : Prop where
  size : W.heap.size ≤ W'.heap.size
  block : ∀ k, k < W.heap.size → (M k ∨ z ≤ k) → some k ≠ b → some k ≠ r → W'.heap[k]? = W.heap[k]?
  row : r' = r ∨ ∃ k, r' = some k ∧ W.heap.size ≤ k
theorem Step.below {M : Nat → Prop} {z : Nat} {b r : Option Nat} {W W' : World} (h : Below W.heap.size W W') : Step M z b r W r W' := ⟨h.size, fun k hk _ _ _ => h.block k hk, Or.inl rfl⟩
theorem Step.grown {M : Nat → Prop} {z : Nat} {b r : Option Nat} {W W' : World} (h : W.grownBy W' b) : Step M z b r W r W' := ⟨h.size, fun k hk _ hb _ => h.block k hk hb, Or.inl rfl⟩
theorem Step.any {M : Nat → Prop} {z : Nat} {b r r' : Option Nat} {W W' : World} (h : Step M z none r W r' W') : Step M z b r W r' W' := ⟨h.size, fun k hk hm _ hr => h.block k hk hm (fun e => by cases e) hr, h.row⟩
theorem Step.row_lt {M : Nat → Prop} {z : Nat} {b r r' : Option Nat} {W W' : World} (h : Step M z b r W r' W') {k : Nat} (hk : k < W.heap.size) (hr : some k ≠ r) : some k ≠ r' := by
  rcases h.row with e | ⟨j, e, hj⟩
  · rw [e]; exact hr
  · rw [e]; intro e'; have := Oi e'; omega
theorem Step.trans {M : Nat → Prop} {z : Nat} {b r r' r'' : Option Nat} {W W' W'' : World} (h : Step M z b r W r' W') (h2 : Step M z b r' W' r'' W'') : Step M z b r W r'' W'' := by
  refine ⟨Nt h.size h2.size, fun k hk hm hb hr => (h2.block k (Nat.lt_of_lt_of_le hk h.size) hm hb (h.row_lt hk hr)).trans (h.block k hk hm hb hr), ?_⟩
  rcases h2.row with e | ⟨j, e, hj⟩
  · rw [e]; exact h.row
  · exact Or.inr ⟨j, e, Nt h.size hj⟩
def Mine (M : Nat → Prop) (z : Nat) (b r : Option Nat) (g : Nat) : Prop := (M g ∨ z ≤ g) ∧ some g ≠ b ∧ some g ≠ r
theorem Mine.kept {M : Nat → Prop} {z : Nat} {b r r' : Option Nat} {W W' : World} {g : Nat} (h : Mine M z b r g) (hs : Step M z b r W r' W') (hg : g < W.heap.size) : Mine M z b r' g ∧ W'.heap[g]? = W.heap[g]? :=
  ⟨⟨h.1, h.2.1, hs.row_lt hg h.2.2⟩, hs.block g hg h.1 h.2.1 h.2.2⟩
theorem RowAt.step {M : Nat → Prop} {z : Nat} {b r r' : Option Nat} {W W' : World} {e : TypeId} {size n : Nat} {v : Value} {xs : List Value} (h : RowAt W (Mine M z b r) e size v n xs) (hs : Step M z b r W r' W') : RowAt W' (Mine M z b r') e size v n xs :=
  h.move fun _ hk lt => hk.kept hs lt
structure Teller (M : Nat → Prop) (z l : Nat) (J : Option Nat → List Nm → World → Prop) : Prop where
  low : ∀ k, M k → k < z
  lies : ∀ r pre W, J r pre W → z ≤ W.heap.size ∧ ∀ k, r = some k → z ≤ k ∧ k < W.heap.size
  keep : ∀ r pre W W', J r pre W → W'.os = W.os → W'.tape = W.tape → W'.output = W.output → W.heap.size ≤ W'.heap.size → (∀ k, k < W.heap.size → (k < z ∨ some k = r) → W'.heap[k]? = W.heap[k]?) → J r pre W'
  tell : ∀ r pre x W m, J r pre W → x.length ≤ 140737488355328 → pre.length < 100000 → YieldAt Fence.wide m Try.prog l #[.string (tx x)] W fun e W' => e = .returned (.bool true) ∧ ∃ r', J r' (pre ++ [x]) W' ∧ Step M z none r W r' W'
section
variable {M : Nat → Prop} {z l : Nat} {J : Option Nat → List Nm → World → Prop}
theorem Teller.below (T : Teller M z l J) {r : Option Nat} {pre : List Nm} {W W' : World} (h : J r pre W) (hb : Below W.heap.size W W') : J r pre W' :=
  T.keep r pre W W' h hb.os hb.tape hb.output hb.size fun k hk _ => hb.block k hk
theorem Teller.grown (T : Teller M z l J) {r : Option Nat} {pre : List Nm} {W W' : World} {b : Nat} (h : J r pre W) (hz : z ≤ b) (hr : some b ≠ r) (hg : W.grownBy W' (some b)) : J r pre W' :=
  T.keep r pre W W' h hg.os hg.tape hg.output hg.size fun k hk hc => hg.block k hk fun e => by
    have e' := Oi e
    rcases hc with h | h
    · omega
    · exact hr (by rw [← e', h])
theorem Teller.mine (T : Teller M z l J) {r : Option Nat} {pre : List Nm} {W : World} {b : Nat} (h : J r pre W) (hz : z ≤ b) {g : Nat} (hm : M g) : Mine M z (some b) r g := by
  have hg := T.low g hm
  refine ⟨Or.inl hm, fun e => ?_, fun e => ?_⟩
  · have := Oi e; omega
  · have := (T.lies r pre W h).2 g e.symm; omega
theorem Teller.row (T : Teller M z l J) {r : Option Nat} {pre : List Nm} {W : World} {b : Nat} (h : J r pre W) (hz : z ≤ b) {e : TypeId} {size n : Nat} {v : Value} {xs : List Value} (hr : RowAt W M e size v n xs) : RowAt W (Mine M z (some b) r) e size v n xs :=
  hr.move fun _ hk _ => ⟨T.mine h hz hk, rfl⟩
theorem Teller.exs (T : Teller M z l J) {r r' : Option Nat} {pre : List Nm} {W W' : World} {b : Nat} (h : J r pre W) (hz : z ≤ b) (hs : Step M z (some b) r W r' W') {L : List Ex} {xs : List Value} (hr : ExsAt W M L xs) : ExsAt W' M L xs :=
  hr.move fun _ hk lt => ⟨hk, ((T.mine h hz hk).kept hs lt).2⟩
theorem Teller.ex (T : Teller M z l J) {r r' : Option Nat} {pre : List Nm} {W W' : World} {b : Nat} (h : J r pre W) (hz : z ≤ b) (hs : Step M z (some b) r W r' W') {x : Ex} {xs : List Value} (hr : ExAt W M x xs) : ExAt W' M x xs :=
  hr.move fun _ hk lt => ⟨hk, ((T.mine h hz hk).kept hs lt).2⟩
theorem Teller.bnds (T : Teller M z l J) {r r' : Option Nat} {pre : List Nm} {W W' : World} {b : Nat} (h : J r pre W) (hz : z ≤ b) (hs : Step M z (some b) r W r' W') {L : List Bnd} {xs : List Value} (hr : BndsAt W M L xs) : BndsAt W' M L xs :=
  hr.move fun _ hk lt => ⟨hk, ((T.mine h hz hk).kept hs lt).2⟩
theorem Teller.alts (T : Teller M z l J) {r r' : Option Nat} {pre : List Nm} {W W' : World} {b : Nat} (h : J r pre W) (hz : z ≤ b) (hs : Step M z (some b) r W r' W') {L : List Alt} {xs : List Value} (hr : AltsAt W M L xs) : AltsAt W' M L xs :=
  hr.move fun _ hk lt => ⟨hk, ((T.mine h hz hk).kept hs lt).2⟩
theorem Teller.rows (T : Teller M z l J) {r r' : Option Nat} {pre : List Nm} {W W' : World} {b : Nat} (h : J r pre W) (hz : z ≤ b) (hs : Step M z (some b) r W r' W') {e : TypeId} {size n : Nat} {v : Value} {xs : List Value} (hr : RowAt W M e size v n xs) : RowAt W' M e size v n xs :=
  hr.move fun _ hk lt => ⟨hk, ((T.mine h hz hk).kept hs lt).2⟩
end
def VarSaid (M : Nat → Prop) (z : Nat) (J : Option Nat → List Nm → World → Prop) (b ns : Nat) (dom : List Nm) (r : Option Nat) (pre : List Nm) (W : World) (e : Ending) (W' : World) : Prop :=
  e = .returned (.bool true) ∧ ∃ r', J r' pre W' ∧ Step M z (some b) r W r' W' ∧ NSet W' b ns dom
structure At (z : Nat) (J : Option Nat → List Nm → World → Prop) (b ns : Nat) (dom : List Nm) (r : Option Nat) (pre : List Nm) (W : World) : Prop where
  j : J r pre W
  zb : z ≤ b
  ne : some b ≠ r
  set : NSet W b ns dom
theorem At.said {M : Nat → Prop} {z : Nat} {J : Option Nat → List Nm → World → Prop} {b ns ns' : Nat} {dom dom' : List Nm} {r r' : Option Nat} {pre pre' : List Nm} {W W' : World} (h : At z J b ns dom r pre W) (hj : J r' pre' W') (hs : Step M z (some b) r W r' W') (hn : NSet W' b ns' dom') : At z J b ns' dom' r' pre' W' :=
  ⟨hj, h.zb, hs.row_lt h.set.lt h.ne, hn⟩
theorem At.below {M : Nat → Prop} {z l : Nat} {J : Option Nat → List Nm → World → Prop} {b ns : Nat} {dom : List Nm} {r : Option Nat} {pre : List Nm} {W W' : World} (T : Teller M z l J) (h : At z J b ns dom r pre W) (hb : Below W.heap.size W W') : At z J b ns dom r pre W' :=
  ⟨T.below h.j hb, h.zb, h.ne, h.set.later hb⟩
def VarC (M : Nat → Prop) (z l : Nat) (J : Option Nat → List Nm → World → Prop) (n : Nat) : Prop :=
  ∀ (x : Ex) (r : Option Nat) (pre : List Nm) (W : World) (b ns : Nat) (dom : List Nm) (k : Int) (nm : Nm) (f : Bool) (u : Int) (ap : Option Addr) (np cp : Nat) (ak : Option Addr) (nk ck : Nat) (ab : Option Addr) (nb cb : Nat) (aa : Option Addr) (na ca : Nat), SizeOf.sizeOf x ≤ n → wvE x → ns + wtE x ≤ 100000 → pre.length + wtE x ≤ 100000 → At z J b ns dom r pre W → ExAt W M x [.int .i64 k, .string (tx nm), .bool f, .int .u64 u, .slice ap np cp, .slice ak nk ck, .slice ab nb cb, .slice aa na ca] →
    Calls Try.prog 43 #[.agg #[.map (some b), .func (.yield l) #[] #[]], .agg #[.int .i64 k, .string (tx nm), .bool f, .int .u64 u, .slice ap np cp, .slice ak nk ck, .slice ab nb cb, .slice aa na ca]] W (VarSaid M z J b (ns + wtE x) dom r (pre ++ outE dom x) W)
end Go.Proofs.Ytdjcdecbmeickaa
