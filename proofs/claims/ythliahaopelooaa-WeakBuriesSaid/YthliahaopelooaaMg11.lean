import Derived.Test.YthliahaopelooaaMg2
import Derived.Test.YthliahaopelooaaMg10
/- The law's world in numbers: its weak pointers, which are in the row, which in the queue. -/
namespace Go.Proofs.Ythliahaopelooaa
open Go.RowKit
def pl (m : LM) (n : Nat) : Int := m.weaks.getD n 0
def kl (m : LM) (n : Nat) : Int := m.keys.getD n 0
theorem getD_app_lt {l : List Int} {a : Int} {n : Nat} (h : n < l.length) : (l ++ [a]).getD n 0 = l.getD n 0 := by
  simp only [List.getD_eq_getElem?_getD]
  rw [List.getElem?_append_left h]
theorem getD_app_eq {l : List Int} {a : Int} : (l ++ [a]).getD l.length 0 = a := by
  simp [List.getD_eq_getElem?_getD]
theorem getD_mem {l : List Int} {n : Nat} (h : n < l.length) : l.getD n 0 ∈ l := by
  simp only [List.getD_eq_getElem?_getD, List.getElem?_eq_getElem h, Option.getD_some]
  exact List.getElem_mem h
theorem getD_inj {l : List Int} (nd : l.Nodup) {i j : Nat} (hi : i < l.length) (hj : j < l.length) (h : l.getD i 0 = l.getD j 0) : i = j := by
  simp only [List.getD_eq_getElem?_getD, List.getElem?_eq_getElem hi, List.getElem?_eq_getElem hj, Option.getD_some] at h
  have hn := List.pairwise_iff_getElem.1 nd
  rcases Nat.lt_trichotomy i j with e | e | e
  · exact absurd h (hn i j hi hj e)
  · exact e
  · exact absurd h.symm (hn j i hj hi e)
/-- Weak pointers by their numbers: F: their finalisers; rn: the row; qn: the queue. -/
structure Wst (m : LM) (F : List Int) (rn qn : List Nat) : Prop where
  lk : m.keys.length = m.weaks.length
  lf : F.length = m.weaks.length
  nd : m.weaks.Nodup
  ndk : m.keys.Nodup
  tbl : Tbl m (rn.map (pl m)) (qn.map (pl m))
  rl : ∀ n, n ∈ rn → n < m.weaks.length
  ql : ∀ n, n ∈ qn → n < m.weaks.length
  ln : rn.length + qn.length ≤ m.weaks.length
  key : ∀ n, n < m.weaks.length → ∃ o, o ∈ m.O ∧ o.p = kl m n ∧ o.s = 1
  wk : ∀ n, n < m.weaks.length → ∃ o, o ∈ m.O ∧ o.p = pl m n ∧ o.s = 4 ∧ o.a = n ∧ (n ∈ rn → o.k = 9) ∧ (n ∈ qn → o.k = 10)
  vk : ∀ n, n ∈ rn → m.V (pl m n) 0 = kl m n
  vf : ∀ n, n ∈ rn ∨ n ∈ qn → m.V (pl m n) 2 = F.getD n 0
  vq : ∀ n, n ∈ qn → m.V (pl m n) 0 = 0 ∧ m.V (pl m n) 1 = 0
  fp : ∀ n, n < m.weaks.length → 1 ≤ F.getD n 0
  o3 : m.O.length ≤ 3 * m.weaks.length + 1
/-- Which keys are marked. -/
def Mkd (m : LM) (mk : Nat → Bool) : Prop := ∀ n, n < m.weaks.length → ∀ o, o ∈ m.O → o.p = kl m n → (o.m = m.par ↔ mk n = true)
theorem Wst.none : Wst m0 [] [] [] := by
  have e : ∀ n : Nat, ¬ n < m0.weaks.length := fun n h => absurd h (Nat.not_lt_zero _)
  exact ⟨rfl, rfl, List.nodup_nil, List.nodup_nil, m0_tbl, fun n h => by (cases h), fun n h => by (cases h), Nat.le_refl _, fun n h => absurd h (e n), fun n h => absurd h (e n), fun n h => by (cases h), fun n h => by (rcases h with h | h <;> cases h), fun n h => by (cases h), fun n h => absurd h (e n), Nat.zero_le _⟩
theorem Mkd.none (mk : Nat → Bool) : Mkd m0 mk := fun _ h => absurd h (Nat.not_lt_zero _)
section
variable {m : LM} {F : List Int} {rn qn : List Nat} {mk : Nat → Bool}
theorem Wst.plN (h : Wst m F rn qn) {i j : Nat} (hi : i < m.weaks.length) (hj : j < m.weaks.length) (e : pl m i = pl m j) : i = j := getD_inj h.nd hi hj e
theorem Wst.rnd (h : Wst m F rn qn) : (rn ++ qn).Nodup := by
  have := h.tbl.nd
  rw [← List.map_append] at this
  exact (List.pairwise_map.1 this).imp fun h e => h (by rw [e])
/-- It hangs on what it names alone. -/
theorem Wst.other {m' : LM} (h : Wst m F rn qn) (ek : m'.keys = m.keys) (ew : m'.weaks = m.weaks) (et : m'.first = m.first ∧ m'.f = m.f ∧ m'.dom = m.dom ∧ m'.qu = m.qu ∧ m'.la = m.la ∧ m'.cn = m.cn) (eV : m'.V = m.V) (eO : m'.O.length = m.O.length) (ho : ∀ o, o ∈ m.O → ∃ o', o' ∈ m'.O ∧ o'.p = o.p ∧ o'.s = o.s ∧ o'.a = o.a ∧ o'.k = o.k) : Wst m' F rn qn := by
  have ep : pl m' = pl m := by unfold pl; rw [ew]
  have ekl : kl m' = kl m := by unfold kl; rw [ek]
  refine ⟨by rw [ek, ew]; exact h.lk, by rw [ew]; exact h.lf, by rw [ew]; exact h.nd, by rw [ek]; exact h.ndk, ?_, by rw [ew]; exact h.rl, by rw [ew]; exact h.ql, by rw [ew]; exact h.ln, fun n hn => ?_, fun n hn => ?_, by rw [ep, ekl, eV]; exact h.vk, by rw [ep, eV]; exact h.vf, by rw [ep, eV]; exact h.vq, by rw [ew]; exact h.fp, by rw [eO, ew]; exact h.o3⟩
  · rw [ep]
    exact h.tbl.other et (fun _ _ => by rw [eV]) (fun o hoo => by
      obtain ⟨o', a1, a2, a3, -⟩ := ho o hoo
      exact ⟨o', a1, a2, a3⟩)
  · rw [ew] at hn
    obtain ⟨o, b1, b2, b3⟩ := h.key n hn
    obtain ⟨o', a1, a2, a3, -⟩ := ho o b1
    exact ⟨o', a1, a2.trans (b2.trans (by rw [ekl])), a3.trans b3⟩
  · rw [ew] at hn
    obtain ⟨o, b1, b2, b3, b4, b5, b6⟩ := h.wk n hn
    obtain ⟨o', a1, a2, a3, a4, a5⟩ := ho o b1
    exact ⟨o', a1, a2.trans (b2.trans (by rw [ep])), a3.trans b3, a4.trans b4, fun h => a5.trans (b5 h), fun h => a5.trans (b6 h)⟩
theorem Wst.nx (h : Wst m F rn qn) (v : Int) : Wst { m with nx := v } F rn qn := h.other rfl rfl ⟨rfl, rfl, rfl, rfl, rfl, rfl⟩ rfl rfl fun o ho => ⟨o, ho, rfl, rfl, rfl, rfl⟩
theorem Wst.begun (h : Wst m F rn qn) (p : Int) : Wst { m with cy := true, par := p } F rn qn := h.other rfl rfl ⟨rfl, rfl, rfl, rfl, rfl, rfl⟩ rfl rfl fun o ho => ⟨o, ho, rfl, rfl, rfl, rfl⟩
theorem Wst.shaded (h : Wst m F rn qn) (l : List Int) : Wst { m with shaded := l } F rn qn := h.other rfl rfl ⟨rfl, rfl, rfl, rfl, rfl, rfl⟩ rfl rfl fun o ho => ⟨o, ho, rfl, rfl, rfl, rfl⟩
theorem Wst.shade (h : Wst m F rn qn) (p : Int) : Wst { m with cy := true, O := turnO m.O p fun q => { q with m := m.par } } F rn qn := h.other rfl rfl ⟨rfl, rfl, rfl, rfl, rfl, rfl⟩ rfl turnO_length fun o ho => by
  by_cases e : o.p = p
  · exact ⟨_, turnO_in ho e, rfl, rfl, rfl, rfl⟩
  · exact ⟨o, turnO_out ho e, rfl, rfl, rfl, rfl⟩
theorem Mkd.nx (h : Mkd m mk) (v : Int) : Mkd { m with nx := v } mk := h
theorem Mkd.shaded (h : Mkd m mk) (l : List Int) : Mkd { m with shaded := l } mk := h
theorem Mkd.begun (h : ∀ o, o ∈ m.O → o.m = m.par) : Mkd { m with cy := true, par := 1 - m.par } fun _ => false := fun _ _ o ho _ => by
  have := h o ho
  simp only
  constructor
  · intro e
    omega
  · intro e
    cases e
theorem Mkd.shade (h : Mkd m mk) (hw : Wst m F rn qn) {n : Nat} (hn : n < m.weaks.length) : Mkd { m with cy := true, O := turnO m.O (kl m n) fun q => { q with m := m.par } } fun i => mk i || decide (i = n) := fun i hi o ho he => by
  have he' : o.p = kl m i := he
  rcases turnO_mem ho with ⟨q, q1, q2, rfl⟩ | ⟨q1, q2⟩
  · have e2 : i = n := getD_inj hw.ndk (by rw [hw.lk]; exact hi) (by rw [hw.lk]; exact hn) (he'.symm.trans q2)
    simp [e2]
  · have e2 : i ≠ n := fun e => q2 (by rw [he', e])
    have := h i hi o q1 he'
    simpa [e2] using this
/-- One more. -/
theorem Wst.add (h : Wst m F rn qn) {k f a : Int} (hO : ∀ o, o ∈ m.O → o.p ≠ k ∧ o.p ≠ f ∧ o.p ≠ a) (hkf : k ≠ f) (hka : k ≠ a) (hfa : f ≠ a) (h1 : 1 ≤ k) (h2 : 1 ≤ f) (h3 : 1 ≤ a) :
    Wst (added (grow3 m k f a) a) (F ++ [f]) (m.weaks.length :: rn) qn := by
  have wlt : ∀ n, n < m.weaks.length → pl m n ≠ k ∧ pl m n ≠ f ∧ pl m n ≠ a := fun n hn => by
    obtain ⟨o, b1, b2, -⟩ := h.wk n hn
    rw [← b2]
    exact hO o b1
  have klt : ∀ n, n < m.weaks.length → kl m n ≠ k ∧ kl m n ≠ f ∧ kl m n ≠ a := fun n hn => by
    obtain ⟨o, b1, b2, -⟩ := h.key n hn
    rw [← b2]
    exact hO o b1
  have ewl : (added (grow3 m k f a) a).weaks = m.weaks ++ [a] := rfl
  have ekl : (added (grow3 m k f a) a).keys = m.keys ++ [k] := rfl
  have eO : (added (grow3 m k f a) a).O = ((m.O ++ [⟨k, 7, 1, 0, m.par⟩]) ++ [⟨f, 7, 1, 1, m.par⟩]) ++ [⟨a, 9, 4, m.weaks.length, m.par⟩] := rfl
  have ep : ∀ n, n < m.weaks.length → pl (added (grow3 m k f a) a) n = pl m n := fun n hn => getD_app_lt hn
  have ep2 : pl (added (grow3 m k f a) a) m.weaks.length = a := getD_app_eq
  have ek : ∀ n, n < m.weaks.length → kl (added (grow3 m k f a) a) n = kl m n := fun n hn => getD_app_lt (by rw [h.lk]; exact hn)
  have ek2 : kl (added (grow3 m k f a) a) m.weaks.length = k := by
    unfold kl
    rw [ekl, ← h.lk]
    exact getD_app_eq
  have eV0 : ∀ p, p ≠ a → p ≠ f → p ≠ k → ∀ i, (grow3 m k f a).V p i = m.V p i := fun p p1 p2 p3 i => by
    show vset (vset (vset (vnew (vnew (vnew m.V k) f) a) a 0 k) a 1 f) a 2 f p i = _
    rw [vset_other (Or.inl p1), vset_other (Or.inl p1), vset_other (Or.inl p1), vnew_other p1, vnew_other p2, vnew_other p3]
  have eVa : (grow3 m k f a).V a 0 = k ∧ (grow3 m k f a).V a 2 = f := by
    constructor
    · show vset (vset (vset (vnew (vnew (vnew m.V k) f) a) a 0 k) a 1 f) a 2 f a 0 = _
      rw [vset_other (Or.inr (by decide)), vset_other (Or.inr (by decide)), vset_same]
    · show vset (vset (vset (vnew (vnew (vnew m.V k) f) a) a 0 k) a 1 f) a 2 f a 2 = _
      rw [vset_same]
  have n0 : a ≠ 0 := by omega
  have eV3 : ∀ p i, i ≠ 3 → (added (grow3 m k f a) a).V p i = (grow3 m k f a).V p i := fun p i hi => by
    unfold added joined
    simp only [if_pos, if_neg n0]
    exact vset_other (Or.inr hi)
  have emap : ∀ l : List Nat, (∀ n, n ∈ l → n < m.weaks.length) → l.map (pl (added (grow3 m k f a) a)) = l.map (pl m) := fun l hl => List.map_congr_left fun n hn => ep n (hl n hn)
  have hoa : (⟨a, 9, 4, (m.weaks.length : Int), m.par⟩ : Ob) ∈ (grow3 m k f a).O := List.mem_append_right _ (List.mem_singleton.2 rfl)
  have hpp : ∀ p, p ∈ rn.map (pl m) ∨ p ∈ qn.map (pl m) → p ≠ k ∧ p ≠ f ∧ p ≠ a := fun p hp => by
    rcases hp with hp | hp
    · obtain ⟨n, hn, rfl⟩ := List.mem_map.1 hp
      exact wlt n (h.rl n hn)
    · obtain ⟨n, hn, rfl⟩ := List.mem_map.1 hp
      exact wlt n (h.ql n hn)
  have ht2 : Tbl (grow3 m k f a) (rn.map (pl m)) (qn.map (pl m)) := h.tbl.other ⟨rfl, rfl, rfl, rfl, rfl, rfl⟩ (fun p hp => by
    obtain ⟨p1, p2, p3⟩ := hpp p hp
    exact eV0 p p3 p2 p1 3) (fun o ho => ⟨o, List.mem_append_left _ (List.mem_append_left _ (List.mem_append_left _ ho)), rfl, rfl⟩)
  have hnot : a ∉ rn.map (pl m) ++ qn.map (pl m) := fun hm => by
    rcases List.mem_append.1 hm with hm | hm
    · exact (hpp a (Or.inl hm)).2.2 rfl
    · exact (hpp a (Or.inr hm)).2.2 rfl
  have ht3 := ht2.add hoa rfl h3 hnot
  have lw : (added (grow3 m k f a) a).weaks.length = m.weaks.length + 1 := by rw [ewl]; simp
  have cases1 : ∀ n, n < m.weaks.length + 1 → n < m.weaks.length ∨ n = m.weaks.length := fun n hn => by omega
  refine ⟨?_, ?_, ?_, ?_, ?_, ?_, ?_, ?_, ?_, ?_, ?_, ?_, ?_, ?_, ?_⟩
  · rw [ekl, ewl]
    simp [h.lk]
  · rw [ewl]
    simp [h.lf]
  · rw [ewl]
    refine List.nodup_append.2 ⟨h.nd, by simp, fun x hx y hy => ?_⟩
    rw [List.mem_singleton] at hy
    subst hy
    obtain ⟨n, hn, rfl⟩ := List.getElem_of_mem hx
    have := (wlt n hn).2.2
    unfold pl at this
    rwa [List.getD_eq_getElem?_getD, List.getElem?_eq_getElem hn] at this
  · rw [ekl]
    refine List.nodup_append.2 ⟨h.ndk, by simp, fun x hx y hy => ?_⟩
    rw [List.mem_singleton] at hy
    subst hy
    obtain ⟨n, hn, rfl⟩ := List.getElem_of_mem hx
    have := (klt n (by rw [← h.lk]; exact hn)).1
    unfold kl at this
    rwa [List.getD_eq_getElem?_getD, List.getElem?_eq_getElem hn] at this
  · rw [List.map_cons, ep2, emap rn h.rl, emap qn h.ql]
    exact ht3
  · intro n hn
    rw [lw]
    rcases List.mem_cons.1 hn with rfl | hn
    · omega
    · have := h.rl n hn
      omega
  · intro n hn
    rw [lw]
    have := h.ql n hn
    omega
  · rw [lw, List.length_cons]
    have := h.ln
    omega
  · intro n hn
    rw [lw] at hn
    rcases cases1 n hn with hn | rfl
    · obtain ⟨o, b1, b2, b3⟩ := h.key n hn
      exact ⟨o, List.mem_append_left _ (List.mem_append_left _ (List.mem_append_left _ b1)), by rw [ek n hn]; exact b2, b3⟩
    · exact ⟨⟨k, 7, 1, 0, m.par⟩, List.mem_append_left _ (List.mem_append_left _ (List.mem_append_right _ (List.mem_singleton.2 rfl))), by rw [ek2], rfl⟩
  · intro n hn
    rw [lw] at hn
    rcases cases1 n hn with hn | rfl
    · obtain ⟨o, b1, b2, b3, b4, b5, b6⟩ := h.wk n hn
      refine ⟨o, List.mem_append_left _ (List.mem_append_left _ (List.mem_append_left _ b1)), by rw [ep n hn]; exact b2, b3, b4, fun hm => ?_, b6⟩
      rcases List.mem_cons.1 hm with e | hm
      · omega
      · exact b5 hm
    · refine ⟨_, hoa, by rw [ep2], rfl, rfl, fun _ => rfl, fun hm => ?_⟩
      have := h.ql _ hm
      omega
  · intro n hn
    rcases List.mem_cons.1 hn with rfl | hn
    · rw [ep2, ek2, eV3 _ _ (by decide)]
      exact eVa.1
    · have hl := h.rl n hn
      obtain ⟨p1, p2, p3⟩ := wlt n hl
      rw [ep n hl, ek n hl, eV3 _ _ (by decide), eV0 _ p3 p2 p1]
      exact h.vk n hn
  · intro n hn
    have : n = m.weaks.length ∨ (n ∈ rn ∨ n ∈ qn) := by
      rcases hn with hn | hn
      · rcases List.mem_cons.1 hn with e | hn
        · exact Or.inl e
        · exact Or.inr (Or.inl hn)
      · exact Or.inr (Or.inr hn)
    rcases this with rfl | hn
    · rw [ep2, eV3 _ _ (by decide), ← h.lf, getD_app_eq]
      exact eVa.2
    · have hl : n < m.weaks.length := hn.elim (h.rl n) (h.ql n)
      obtain ⟨p1, p2, p3⟩ := wlt n hl
      rw [ep n hl, eV3 _ _ (by decide), eV0 _ p3 p2 p1, getD_app_lt (by rw [h.lf]; exact hl)]
      exact h.vf n hn
  · intro n hn
    have hl := h.ql n hn
    obtain ⟨p1, p2, p3⟩ := wlt n hl
    rw [ep n hl, eV3 _ _ (by decide), eV3 _ _ (by decide), eV0 _ p3 p2 p1, eV0 _ p3 p2 p1]
    exact h.vq n hn
  · intro n hn
    rw [lw] at hn
    rcases cases1 n hn with hn | rfl
    · rw [getD_app_lt (by rw [h.lf]; exact hn)]
      exact h.fp n hn
    · rw [← h.lf, getD_app_eq]
      exact h2
  · rw [lw, eO]
    have := h.o3
    simp
    omega
theorem Mkd.add (h : Mkd m mk) (hw : Wst m F rn qn) {k f a : Int} (hO : ∀ o, o ∈ m.O → o.p ≠ k ∧ o.p ≠ f ∧ o.p ≠ a) : Mkd (added (grow3 m k f a) a) fun i => mk i || decide (i = m.weaks.length) := fun n hn o ho he => by
  have lw : (added (grow3 m k f a) a).weaks.length = m.weaks.length + 1 := by
    show (m.weaks ++ [a]).length = _
    simp
  rw [lw] at hn
  have ho' : o ∈ ((m.O ++ [⟨k, 7, 1, 0, m.par⟩]) ++ [⟨f, 7, 1, 1, m.par⟩]) ++ [⟨a, 9, 4, m.weaks.length, m.par⟩] := ho
  have epar : (added (grow3 m k f a) a).par = m.par := rfl
  rw [epar]
  by_cases e : n = m.weaks.length
  · subst e
    have he' : o.p = k := he.trans (by unfold kl; rw [show (added (grow3 m k f a) a).keys = m.keys ++ [k] from rfl, ← hw.lk]; exact getD_app_eq)
    simp only [List.mem_append, List.mem_singleton] at ho'
    rcases ho' with ((h1 | rfl) | rfl) | rfl
    · exact absurd he' (hO o h1).1
    · simp
    · simp
    · simp
  · have hl : n < m.weaks.length := by omega
    have he' : o.p = kl m n := he.trans (getD_app_lt (by rw [hw.lk]; exact hl))
    obtain ⟨q, q1, q2, -⟩ := hw.key n hl
    have hq := hO q q1
    simp only [List.mem_append, List.mem_singleton] at ho'
    rcases ho' with ((h1 | rfl) | rfl) | rfl
    · have := h n hl o h1 he'
      simpa [e] using this
    · exact absurd (q2.trans he'.symm) hq.1
    · exact absurd (q2.trans he'.symm) hq.2.1
    · exact absurd (q2.trans he'.symm) hq.2.2
end
end Go.Proofs.Ythliahaopelooaa
/- The law's steps by numbers: Step, Take. -/
namespace Go.Proofs.Ythliahaopelooaa
open Go.RowKit
/-- Behind a burial. -/
def buriedL (m : LM) (pre suf : List Nat) (n : Nat) : LM := tombed (left { m with nx := (suf.map (pl m)).headD 0 } (pl m n) ((pre.map (pl m)).getLastD 0) ((suf.map (pl m)).headD 0)) (pl m n) n
/-- Behind Take. -/
def takenL (m : LM) (F : List Int) (n : Nat) (qs : List Nat) : LM := taken { m with shaded := (m.shaded ++ [F.getD n 0]) ++ [(qs.map (pl m)).headD 0] } (pl m n) ((qs.map (pl m)).headD 0)
section
variable {m : LM} {F : List Int} {rn qn pre suf qs : List Nat} {mk : Nat → Bool} {n : Nat}
theorem joined_V {m : LM} {a b p i : Int} (h : i ≠ 3) : (joined m a b).V p i = m.V p i := by
  unfold joined
  simp only
  split
  · rfl
  · exact vset_other (Or.inr h)
theorem Wst.bury (h : Wst m F (pre ++ n :: suf) qn) : Wst (buriedL m pre suf n) F (pre ++ suf) (qn ++ [n]) := by
  have hn := h.rl n (by simp)
  obtain ⟨o, b1, b2, b3, b4, b5, b6⟩ := h.wk n hn
  have ht : Tbl { m with nx := (suf.map (pl m)).headD 0 } (pre.map (pl m) ++ pl m n :: suf.map (pl m)) (qn.map (pl m)) := by
    have := h.tbl.walk ((suf.map (pl m)).headD 0)
    rw [List.map_append, List.map_cons] at this
    exact this
  have hp1 : 1 ≤ pl m n := ht.pos _ (Or.inl (by simp))
  have htl := ht.leave
  have hnd := nodup_mid (List.nodup_append.1 ht.nd).1
  have hnotin : pl m n ∉ (pre.map (pl m) ++ suf.map (pl m)) ++ qn.map (pl m) := fun hm => by
    rcases List.mem_append.1 hm with hm | hm
    · exact (List.nodup_cons.1 hnd).1 hm
    · exact (List.nodup_append.1 ht.nd).2.2 (pl m n) (by simp) (pl m n) hm rfl
  have htt := htl.tomb (o := o) b1 b3 (by rw [b2]; exact hp1) (by rw [b2]; exact hnotin) n
  rw [b2] at htt
  have epl : pl (buriedL m pre suf n) = pl m := rfl
  have ekl : kl (buriedL m pre suf n) = kl m := rfl
  have hla : (left { m with nx := (suf.map (pl m)).headD 0 } (pl m n) ((pre.map (pl m)).getLastD 0) ((suf.map (pl m)).headD 0)).la = m.la := rfl
  have hV : ∀ p i, i ≠ 3 → p ≠ pl m n → (buriedL m pre suf n).V p i = m.V p i := fun p i hi hp => by
    show buryV (left { m with nx := (suf.map (pl m)).headD 0 } (pl m n) ((pre.map (pl m)).getLastD 0) ((suf.map (pl m)).headD 0)) (pl m n) p i = _
    unfold buryV
    have e0 : (left { m with nx := (suf.map (pl m)).headD 0 } (pl m n) ((pre.map (pl m)).getLastD 0) ((suf.map (pl m)).headD 0)).V p i = m.V p i := joined_V hi
    split
    · rw [vset_other (Or.inl hp), vset_other (Or.inl hp), vset_other (Or.inl hp), e0]
    · rw [vset_other (Or.inr hi), vset_other (Or.inl hp), vset_other (Or.inl hp), vset_other (Or.inl hp), e0]
  have hV2 : (buriedL m pre suf n).V (pl m n) 2 = m.V (pl m n) 2 := by
    show buryV (left { m with nx := (suf.map (pl m)).headD 0 } (pl m n) ((pre.map (pl m)).getLastD 0) ((suf.map (pl m)).headD 0)) (pl m n) (pl m n) 2 = _
    unfold buryV
    have e0 : (left { m with nx := (suf.map (pl m)).headD 0 } (pl m n) ((pre.map (pl m)).getLastD 0) ((suf.map (pl m)).headD 0)).V (pl m n) 2 = m.V (pl m n) 2 := joined_V (by decide)
    split
    · rw [vset_other (Or.inr (by decide)), vset_other (Or.inr (by decide)), vset_other (Or.inr (by decide)), e0]
    · rw [vset_other (Or.inr (by decide)), vset_other (Or.inr (by decide)), vset_other (Or.inr (by decide)), vset_other (Or.inr (by decide)), e0]
  have hV01 : (buriedL m pre suf n).V (pl m n) 0 = 0 ∧ (buriedL m pre suf n).V (pl m n) 1 = 0 := by
    constructor
    · show buryV (left { m with nx := (suf.map (pl m)).headD 0 } (pl m n) ((pre.map (pl m)).getLastD 0) ((suf.map (pl m)).headD 0)) (pl m n) (pl m n) 0 = _
      unfold buryV
      split
      · rw [vset_other (Or.inr (by decide)), vset_other (Or.inr (by decide)), vset_same]
      · rw [vset_other (Or.inr (by decide)), vset_other (Or.inr (by decide)), vset_other (Or.inr (by decide)), vset_same]
    · show buryV (left { m with nx := (suf.map (pl m)).headD 0 } (pl m n) ((pre.map (pl m)).getLastD 0) ((suf.map (pl m)).headD 0)) (pl m n) (pl m n) 1 = _
      unfold buryV
      split
      · rw [vset_other (Or.inr (by decide)), vset_same]
      · rw [vset_other (Or.inr (by decide)), vset_other (Or.inr (by decide)), vset_same]
  have eO : (buriedL m pre suf n).O = turnO m.O (pl m n) fun q => { q with k := 10, a := (n : Int) } := rfl
  have hne : ∀ i, i ∈ pre ++ suf ∨ i ∈ qn → pl m i ≠ pl m n := fun i hi e => hnotin (by
    rw [← e]
    rcases hi with hi | hi
    · rw [← List.map_append]
      exact List.mem_append_left _ (List.mem_map_of_mem hi)
    · exact List.mem_append_right _ (List.mem_map_of_mem hi))
  have hin : ∀ i, i ∈ pre ++ suf → i ∈ pre ++ n :: suf := fun i hi => by
    rcases List.mem_append.1 hi with hi | hi
    · exact List.mem_append_left _ hi
    · exact List.mem_append_right _ (List.mem_cons_of_mem _ hi)
  have hlen : (buriedL m pre suf n).O.length = m.O.length := by rw [eO]; exact turnO_length
  refine ⟨h.lk, h.lf, h.nd, h.ndk, ?_, fun i hi => h.rl i (hin i hi), fun i hi => ?_, ?_, fun i hi => ?_, fun i hi => ?_, fun i hi => ?_, fun i hi => ?_, fun i hi => ?_, h.fp, by rw [hlen]; exact h.o3⟩
  · rw [epl, List.map_append, List.map_append]
    exact htt
  · rcases List.mem_append.1 hi with hi | hi
    · exact h.ql i hi
    · rw [List.mem_singleton] at hi
      subst hi
      exact hn
  · have := h.ln
    simp only [List.length_append, List.length_cons, List.length_nil] at this ⊢
    show _ ≤ m.weaks.length
    omega
  · obtain ⟨q, q1, q2, q3⟩ := h.key i hi
    obtain ⟨q', r1, r2, r3⟩ := turnO_keeps (p := pl m n) (f := fun q => { q with k := 10, a := (n : Int) }) (fun _ => ⟨rfl, rfl⟩) q1
    exact ⟨q', r1, r2.trans q2, r3.trans q3⟩
  · obtain ⟨q, q1, q2, q3, q4, q5, q6⟩ := h.wk i hi
    by_cases e : i = n
    · subst e
      refine ⟨_, turnO_in q1 q2, q2, q3, rfl, fun hm => ?_, fun _ => rfl⟩
      exact absurd rfl (hne i (Or.inl hm))
    · have hpne : q.p ≠ pl m n := fun e2 => e (h.plN hi hn (q2.symm.trans e2))
      refine ⟨q, turnO_out q1 hpne, q2, q3, q4, fun hm => q5 (hin i hm), fun hm => ?_⟩
      rcases List.mem_append.1 hm with hm | hm
      · exact q6 hm
      · rw [List.mem_singleton] at hm
        exact absurd hm e
  · rw [epl, ekl, hV _ _ (by decide) (hne i (Or.inl hi))]
    exact h.vk i (hin i hi)
  · rw [epl]
    rcases hi with hi | hi
    · rw [hV _ _ (by decide) (hne i (Or.inl hi))]
      exact h.vf i (Or.inl (hin i hi))
    · rcases List.mem_append.1 hi with hi | hi
      · rw [hV _ _ (by decide) (hne i (Or.inr hi))]
        exact h.vf i (Or.inr hi)
      · rw [List.mem_singleton] at hi
        subst hi
        rw [hV2]
        exact h.vf i (Or.inl (by simp))
  · rw [epl]
    rcases List.mem_append.1 hi with hi | hi
    · rw [hV _ _ (by decide) (hne i (Or.inr hi)), hV _ _ (by decide) (hne i (Or.inr hi))]
      exact h.vq i hi
    · rw [List.mem_singleton] at hi
      subst hi
      exact hV01
theorem Mkd.bury (h : Mkd m mk) : Mkd (buriedL m pre suf n) mk := fun i hi o ho he => by
  have ho' : o ∈ turnO m.O (pl m n) fun q => { q with k := 10, a := (n : Int) } := ho
  rcases turnO_mem ho' with ⟨q, q1, q2, rfl⟩ | ⟨q1, q2⟩
  · exact h i hi q q1 he
  · exact h i hi o q1 he
theorem Wst.take (h : Wst m F rn (n :: qs)) : Wst (takenL m F n qs) F rn qs := by
  have hn := h.ql n (by simp)
  have ht : Tbl { m with shaded := (m.shaded ++ [F.getD n 0]) ++ [(qs.map (pl m)).headD 0] } (rn.map (pl m)) (pl m n :: qs.map (pl m)) := (h.shaded _).tbl
  have htt := ht.take
  have hnd := h.rnd
  have hne : ∀ i, i ∈ rn ∨ i ∈ qs → pl m i ≠ pl m n := fun i hi e => by
    have hil : i < m.weaks.length := hi.elim (h.rl i) (fun hq => h.ql i (List.mem_cons_of_mem _ hq))
    have e2 := h.plN hil hn e
    subst e2
    rcases hi with hi | hi
    · exact (List.nodup_append.1 hnd).2.2 i hi i (by simp) rfl
    · exact (List.nodup_cons.1 (List.nodup_append.1 hnd).2.1).1 hi
  have hV : ∀ p i, i ≠ 3 → p ≠ pl m n → (takenL m F n qs).V p i = m.V p i := fun p i hi hp => by
    show vset (vset m.V (pl m n) 2 0) (pl m n) 3 0 p i = _
    rw [vset_other (Or.inl hp), vset_other (Or.inl hp)]
  refine ⟨h.lk, h.lf, h.nd, h.ndk, htt, h.rl, fun i hi => h.ql i (List.mem_cons_of_mem _ hi), ?_, h.key, fun i hi => ?_, fun i hi => ?_, fun i hi => ?_, fun i hi => ?_, h.fp, h.o3⟩
  · have := h.ln
    rw [List.length_cons] at this
    show _ ≤ m.weaks.length
    omega
  · obtain ⟨q, q1, q2, q3, q4, q5, q6⟩ := h.wk i hi
    exact ⟨q, q1, q2, q3, q4, q5, fun hm => q6 (List.mem_cons_of_mem _ hm)⟩
  · show (takenL m F n qs).V (pl m i) 0 = _
    rw [hV _ _ (by decide) (hne i (Or.inl hi))]
    exact h.vk i hi
  · show (takenL m F n qs).V (pl m i) 2 = _
    rw [hV _ _ (by decide) (hne i hi)]
    exact h.vf i (hi.imp id (List.mem_cons_of_mem _))
  · show (takenL m F n qs).V (pl m i) 0 = 0 ∧ (takenL m F n qs).V (pl m i) 1 = 0
    rw [hV _ _ (by decide) (hne i (Or.inr hi)), hV _ _ (by decide) (hne i (Or.inr hi))]
    exact h.vq i (List.mem_cons_of_mem _ hi)
theorem Mkd.take (h : Mkd m mk) : Mkd (takenL m F n qs) mk := h
end
section
variable {Kx : Nat → Prop} {S : LSp} {m : LM} {u : Int} {W : World} {F : List Int} {rn qn pre suf qs : List Nat} {mk : Nat → Bool} {n : Nat}
theorem lstep_any (h : Lm Kx S m u W) (hw : Wst m F (pre ++ n :: suf) qn) (hnx : m.nx = pl m n) (hm : Mkd m mk) (hN : m.weaks.length < 70000) :
    Calls Try.prog 15 #[.pointer (some ⟨S.tb, 0, none⟩)] W fun e w' =>
      (mk n = true → Aft Kx S { m with nx := (suf.map (pl m)).headD 0 } u 6 (.tuple #[.int .i64 n, .bool false, .bool true]) W e w') ∧
      (mk n = false → Aft Kx S (buriedL m pre suf n) u 20 (.tuple #[.int .i64 n, .bool true, .bool true]) W e w') := by
  have hn := hw.rl n (by simp)
  obtain ⟨o, b1, b2, b3, b4, b5, b6⟩ := hw.wk n hn
  obtain ⟨c, c1, c2, c3⟩ := hw.key n hn
  have ht := hw.tbl
  rw [List.map_append, List.map_cons, ← b2] at ht
  have hln := hw.ln
  simp only [List.length_append, List.length_cons] at hln
  have hdl : m.dom.length < 80000 := by rw [ht.dl]; simp; omega
  have hcn := ht.cn
  rw [List.length_map] at hcn
  have hv : m.V o.p 0 = c.p := by rw [b2, c2]; exact hw.vk n (by simp)
  have hs := wstep_some h b1 (b5 (by simp)) b3 ht (hnx.trans b2.symm) hdl (by omega) (by omega) c1 hv
  rw [b4, b2] at hs
  refine hs.mono ?_
  rintro e w' ⟨h1, h2⟩
  have hmk := hm n hn c c1 c2
  refine ⟨fun e1 => h1 (hmk.2 e1), fun e1 => h2 fun e2 => ?_⟩
  have := hmk.1 e2
  rw [e1] at this
  cases this
theorem ltake_any (h : Lm Kx S m u W) (hw : Wst m F rn (n :: qs)) (hN : m.weaks.length < 70000) (hl : m.shaded.length < 90000) :
    Calls Try.prog 17 #[.pointer (some ⟨S.tb, 0, none⟩)] W (Aft Kx S (takenL m F n qs) u 9 (.tuple #[.int .i64 (pl m n), .int .i64 n, .int .i64 (F.getD n 0), .bool true]) W) := by
  have hn := hw.ql n (by simp)
  obtain ⟨o, b1, b2, b3, b4, b5, b6⟩ := hw.wk n hn
  have ht := hw.tbl
  rw [List.map_cons, ← b2] at ht
  have hcn := ht.cn
  have hln := hw.ln
  simp only [List.length_cons, List.length_map] at hcn hln
  have hs := wtake_some h b1 b3 ht hl (by omega)
  rw [b4, b2, hw.vf n (Or.inr (by simp))] at hs
  exact hs
end
end Go.Proofs.Ythliahaopelooaa
/- The law's world, as its loops hold it; the document's example. -/
namespace Go.Proofs.Ythliahaopelooaa
open Go.RowKit
/-- The numbers below one, the last first. -/
def dn : Nat → List Nat
  | 0 => []
  | n + 1 => n :: dn n
theorem dn_length (n : Nat) : (dn n).length = n := by
  induction n with
  | zero => rfl
  | succ n ih => simp [dn, ih]
theorem dn_mem {n i : Nat} : i ∈ dn n ↔ i < n := by
  induction n with
  | zero => simp [dn]
  | succ n ih =>
    simp only [dn, List.mem_cons, ih]
    omega
section
variable {Kx : Nat → Prop} {S : LSp} {m : LM} {u : Int} {W : World}
theorem rw_at {base : Nat} {W : World} {v : Value} {l : List Int} (h : Rw base W v l) : ∃ a cap, v = .slice a l.length cap ∧ ∀ i, i < l.length → ∃ g, a = some ⟨g, 0, none⟩ ∧ W.cell? ⟨g, i, none⟩ = some (.int .i64 (l.getD i 0)) := by
  rcases h.2 with ⟨e, e2⟩ | ⟨g, cap, cur, e, hg, hb, hr⟩
  · exact ⟨none, 0, by rw [e, e2], fun i hi => by omega⟩
  · refine ⟨_, cap, e, fun i hi => ⟨g, rfl, ?_⟩⟩
    subst e
    have := h.cells rfl i (.int .i64 (l.getD i 0)) (by simp [List.getElem?_eq_getElem hi])
    rw [Addr.add_lit] at this
    simpa using this
theorem Lm.c0 (h : Lm Kx S m u W) : W.cell? ⟨S.wb, 0, none⟩ = some (.pointer (some ⟨S.hb, 0, none⟩)) := by
  obtain ⟨x, T, D, R, top, L, G, vk, vw, vm, vs, h⟩ := h
  exact h.ll.a1.h
theorem Lm.c1 (h : Lm Kx S m u W) : W.cell? ⟨S.wb, 1, none⟩ = some (.pointer (some ⟨S.tb, 0, none⟩)) := by
  obtain ⟨x, T, D, R, top, L, G, vk, vw, vm, vs, h⟩ := h
  exact h.ll.a1.t
theorem Lm.c2 (h : Lm Kx S m u W) : W.cell? ⟨S.wb, 2, none⟩ = some (.pointer (some ⟨S.mb, 0, none⟩)) := by
  obtain ⟨x, T, D, R, top, L, G, vk, vw, vm, vs, h⟩ := h
  exact h.ll.a1.m
theorem Lm.keysAt (h : Lm Kx S m u W) : ∃ a cap, W.cell? ⟨S.wb, 3, none⟩ = some (.slice a m.keys.length cap) ∧ ∀ i, i < m.keys.length → ∃ g, a = some ⟨g, 0, none⟩ ∧ W.cell? ⟨g, i, none⟩ = some (.int .i64 (kl m i)) := by
  obtain ⟨x, T, D, R, top, L, G, vk, vw, vm, vs, h⟩ := h
  obtain ⟨a, cap, rfl, hc⟩ := rw_at h.ll.k
  exact ⟨a, cap, h.ll.a1.k, hc⟩
theorem Lm.weaksAt (h : Lm Kx S m u W) : ∃ a cap, W.cell? ⟨S.wb, 4, none⟩ = some (.slice a m.weaks.length cap) ∧ ∀ i, i < m.weaks.length → ∃ g, a = some ⟨g, 0, none⟩ ∧ W.cell? ⟨g, i, none⟩ = some (.int .i64 (pl m i)) := by
  obtain ⟨x, T, D, R, top, L, G, vk, vw, vm, vs, h⟩ := h
  obtain ⟨a, cap, rfl, hc⟩ := rw_at h.ll.w
  exact ⟨a, cap, h.ll.a1.w, hc⟩
/-- THE LAW'S WORLD: which weak pointers are in the row, which in the queue, whose keys are marked. -/
structure LS (Kx : Nat → Prop) (S : LSp) (m : LM) (F : List Int) (rn qn : List Nat) (mk : Nat → Bool) (W : World) : Prop where
  lm : ∃ u, Lm Kx S m u W
  ws : Wst m F rn qn
  mks : Mkd m mk
  dr : m.dr.length ≤ m.weaks.length
  ma : m.marked.length ≤ 2 * m.weaks.length
  sl : m.shaded.length + 2 * (rn.length + qn.length) ≤ 2 * m.weaks.length
theorem LS.later {F : List Int} {rn qn : List Nat} {mk : Nat → Bool} {W' : World} (h : LS Kx S m F rn qn mk W) (hb : Below W.heap.size W W') : LS Kx S m F rn qn mk W' ∧ Kp Kx W W' := by
  obtain ⟨u, hu⟩ := h.lm
  obtain ⟨h1, h2⟩ := hu.later hb
  exact ⟨⟨⟨u, h1⟩, h.ws, h.mks, h.dr, h.ma, h.sl⟩, h2⟩
/-- What an add keeps. -/
structure Older (m m' : LM) : Prop where
  n : m'.weaks.length = m.weaks.length + 1
  par : m'.par = m.par
  cy : m'.cy = m.cy
  nx : m'.nx = m.nx
  sh : m'.shaded = m.shaded
  pl : ∀ i, i < m.weaks.length → pl m' i = pl m i
  kl : ∀ i, i < m.weaks.length → kl m' i = kl m i
theorem ls_add {F : List Int} {rn qn : List Nat} {mk : Nat → Bool} (h : LS Kx S m F rn qn mk W) (hN : m.weaks.length < 100) :
    Calls Try.prog 10 #[.pointer (some ⟨S.wb, 0, none⟩)] W fun e w' => e = .returned (.bool true) ∧ ∃ m' F', LS Kx S m' F' (m.weaks.length :: rn) qn (fun i => mk i || decide (i = m.weaks.length)) w' ∧ Kp Kx W w' ∧ Older m m' ∧ ∀ i, i < m.weaks.length → F'.getD i 0 = F.getD i 0 := by
  obtain ⟨u, hu⟩ := h.lm
  have ht := h.ws.tbl
  have hln := h.ws.ln
  have hlk := h.ws.lk
  have ho3 := h.ws.o3
  have hdl := ht.dl
  rw [List.length_map] at hdl
  have hdr := h.dr
  have hma := h.ma
  refine (ladd_any hu ht (by omega) (by omega) (by omega) (by omega) (by omega) (by omega)).mono ?_
  rintro e w' ⟨rfl, k, f, a, hl, hk, hO, hkf, hka, hfa, h1, h2, h3⟩
  have lw : (added (grow3 m k f a) a).weaks.length = m.weaks.length + 1 := by
    show (m.weaks ++ [a]).length = _
    simp
  refine ⟨rfl, _, F ++ [f], ⟨hl, h.ws.add hO hkf hka hfa h1 h2 h3, h.mks.add h.ws hO, ?_, ?_, ?_⟩, hk, ⟨lw, rfl, rfl, rfl, rfl, fun i hi => getD_app_lt hi, fun i hi => getD_app_lt (by omega)⟩, fun i hi => getD_app_lt (by rw [h.ws.lf]; exact hi)⟩
  · rw [lw]
    show ((a, (m.weaks.length : Int)) :: m.dr).length ≤ _
    simp
    omega
  · rw [lw]
    show (m.marked ++ [a]).length ≤ _
    simp
    omega
  · rw [lw]
    have := h.sl
    show m.shaded.length + _ ≤ _
    rw [List.length_cons]
    omega
theorem ls_begin {F : List Int} {rn qn : List Nat} {mk : Nat → Bool} (h : LS Kx S m F rn qn mk W) (hy : m.cy = false) :
    Calls Try.prog 12 #[.pointer (some ⟨S.hb, 0, none⟩)] W fun e w' => e = .returned (.int .i64 0) ∧ LS Kx S { m with cy := true, par := 1 - m.par } F rn qn (fun _ => false) w' ∧ Kp Kx W w' := by
  obtain ⟨u, hu⟩ := h.lm
  refine (lm_begin hu hy).mono ?_
  rintro e w' ⟨rfl, hl, hk⟩
  exact ⟨rfl, ⟨hl, h.ws.begun _, Mkd.begun (lm_marks hu hy), h.dr, h.ma, h.sl⟩, hk⟩
theorem ls_shade {F : List Int} {rn qn : List Nat} {mk : Nat → Bool} (h : LS Kx S m F rn qn mk W) {n : Nat} (hn : n < m.weaks.length) :
    Calls Try.prog 27 #[.pointer (some ⟨S.hb, 0, none⟩), .int .i64 (kl m n)] W fun e w' => e = .returned (.tuple #[.bool (!mk n), .int .i64 0]) ∧ ∃ m', LS Kx S m' F rn qn (fun i => mk i || decide (i = n)) w' ∧ Kp Kx W w' ∧ m'.weaks = m.weaks ∧ m'.keys = m.keys ∧ m'.nx = m.nx ∧ m'.marked = m.marked ∧ m'.first = m.first ∧ m'.shaded = m.shaded ∧ (m.cy = true → m'.cy = true) := by
  obtain ⟨u, hu⟩ := h.lm
  obtain ⟨o, b1, b2, b3⟩ := h.ws.key n hn
  have hmk := h.mks n hn o b1 b2
  by_cases e : mk n = true
  · have hs := lm_shade_not hu b1 (hmk.2 e)
    rw [b2] at hs
    refine hs.mono ?_
    rintro e9 w' ⟨rfl, hl, hk⟩
    refine ⟨by rw [e]; rfl, m, ⟨hl, h.ws, fun i hi q hq he => ?_, h.dr, h.ma, h.sl⟩, hk, rfl, rfl, rfl, rfl, rfl, rfl, id⟩
    have := h.mks i hi q hq he
    by_cases e2 : i = n
    · subst e2
      simp [this, e]
    · simpa [e2] using this
  · have hs := lm_shade hu b1 (fun e2 => e (hmk.1 e2))
    rw [b2] at hs
    refine hs.mono ?_
    rintro e9 w' ⟨rfl, hl, hk⟩
    exact ⟨by simp [e], _, ⟨hl, h.ws.shade _, h.mks.shade h.ws hn, h.dr, h.ma, h.sl⟩, hk, rfl, rfl, rfl, rfl, rfl, rfl, fun _ => rfl⟩
theorem ls_tbegin {F : List Int} {rn qn : List Nat} {mk : Nat → Bool} (h : LS Kx S m F rn qn mk W) :
    Calls Try.prog 13 #[.pointer (some ⟨S.tb, 0, none⟩)] W fun e w' => e = .returned (.tuple #[]) ∧ LS Kx S { m with nx := (rn.map (pl m)).headD 0 } F rn qn mk w' ∧ Kp Kx W w' := by
  obtain ⟨u, hu⟩ := h.lm
  have hf := h.ws.tbl.first
  rw [← hf]
  refine (wbegin_any hu).mono ?_
  rintro e w' ⟨rfl, u', hl, hk, -⟩
  exact ⟨rfl, ⟨⟨u', hl⟩, h.ws.nx _, h.mks.nx _, h.dr, h.ma, h.sl⟩, hk⟩
theorem ls_step {F : List Int} {pre suf qn : List Nat} {mk : Nat → Bool} {n : Nat} (h : LS Kx S m F (pre ++ n :: suf) qn mk W) (hnx : m.nx = pl m n) (hN : m.weaks.length < 1000) :
    Calls Try.prog 15 #[.pointer (some ⟨S.tb, 0, none⟩)] W fun e w' => e = .returned (.tuple #[.int .i64 n, .bool (!mk n), .bool true]) ∧ ∃ m', LS Kx S m' F (if mk n = true then pre ++ n :: suf else pre ++ suf) (if mk n = true then qn else qn ++ [n]) mk w' ∧ Kp Kx W w' ∧ m'.weaks = m.weaks ∧ m'.keys = m.keys ∧ m'.nx = (suf.map (pl m)).headD 0 ∧ m'.cy = m.cy ∧ m'.par = m.par ∧ m'.shaded = m.shaded ∧ m'.marked = m.marked := by
  obtain ⟨u, hu⟩ := h.lm
  refine (lstep_any hu h.ws hnx h.mks (by omega)).mono ?_
  rintro e w' ⟨h1, h2⟩
  by_cases em : mk n = true
  · obtain ⟨rfl, u', hl, hk, -⟩ := h1 em
    rw [if_pos em, if_pos em, em]
    exact ⟨rfl, _, ⟨⟨u', hl⟩, h.ws.nx _, h.mks.nx _, h.dr, h.ma, h.sl⟩, hk, rfl, rfl, rfl, rfl, rfl, rfl, rfl⟩
  · have em' : mk n = false := by simpa using em
    obtain ⟨rfl, u', hl, hk, -⟩ := h2 em'
    rw [if_neg em, if_neg em, em']
    exact ⟨rfl, _, ⟨⟨u', hl⟩, h.ws.bury, h.mks.bury, h.dr, h.ma, by have := h.sl; simp only [List.length_append, List.length_cons, List.length_nil] at this ⊢; show m.shaded.length + _ ≤ 2 * m.weaks.length; omega⟩, hk, rfl, rfl, rfl, rfl, rfl, rfl, rfl⟩
theorem ls_step0 {F : List Int} {rn qn : List Nat} {mk : Nat → Bool} (h : LS Kx S m F rn qn mk W) (hnx : m.nx = 0) :
    Calls Try.prog 15 #[.pointer (some ⟨S.tb, 0, none⟩)] W fun e w' => e = .returned (.tuple #[.int .i64 0, .bool false, .bool false]) ∧ LS Kx S m F rn qn mk w' ∧ Kp Kx W w' := by
  obtain ⟨u, hu⟩ := h.lm
  refine (wstep_none hu hnx).mono ?_
  rintro e w' ⟨rfl, u', hl, hk, -⟩
  exact ⟨rfl, ⟨⟨u', hl⟩, h.ws, h.mks, h.dr, h.ma, h.sl⟩, hk⟩
theorem ls_take {F : List Int} {rn qs : List Nat} {mk : Nat → Bool} {n : Nat} (h : LS Kx S m F rn (n :: qs) mk W) (hN : m.weaks.length < 1000) :
    Calls Try.prog 17 #[.pointer (some ⟨S.tb, 0, none⟩)] W fun e w' => e = .returned (.tuple #[.int .i64 (pl m n), .int .i64 n, .int .i64 (F.getD n 0), .bool true]) ∧ ∃ m', LS Kx S m' F rn qs mk w' ∧ Kp Kx W w' ∧ m'.weaks = m.weaks ∧ m'.keys = m.keys ∧ m'.nx = m.nx ∧ m'.cy = m.cy ∧ m'.shaded = (m.shaded ++ [F.getD n 0]) ++ [(qs.map (pl m)).headD 0] ∧ m'.marked = m.marked ∧ m'.V (pl m n) 2 = 0 ∧ m'.V (pl m n) 3 = 0 := by
  obtain ⟨u, hu⟩ := h.lm
  have hsl := h.sl
  refine (ltake_any hu h.ws (by omega) (by omega)).mono ?_
  rintro e w' ⟨rfl, u', hl, hk, -⟩
  refine ⟨rfl, _, ⟨⟨u', hl⟩, h.ws.take, h.mks.take, h.dr, h.ma, by have := h.sl; rw [List.length_cons] at this; show ((m.shaded ++ [F.getD n 0]) ++ [(qs.map (pl m)).headD 0]).length + _ ≤ 2 * m.weaks.length; simp only [List.length_append, List.length_cons, List.length_nil]; omega⟩, hk, rfl, rfl, rfl, rfl, rfl, rfl, ?_, ?_⟩
  · show vset (vset m.V (pl m n) 2 0) (pl m n) 3 0 (pl m n) 2 = 0
    rw [vset_other (Or.inr (by decide)), vset_same]
  · show vset (vset m.V (pl m n) 2 0) (pl m n) 3 0 (pl m n) 3 = 0
    rw [vset_same]
theorem ls_take0 {F : List Int} {rn : List Nat} {mk : Nat → Bool} (h : LS Kx S m F rn [] mk W) :
    Calls Try.prog 17 #[.pointer (some ⟨S.tb, 0, none⟩)] W fun e w' => e = .returned (.tuple #[.int .i64 0, .int .i64 0, .int .i64 0, .bool false]) ∧ LS Kx S m F rn [] mk w' ∧ Kp Kx W w' := by
  obtain ⟨u, hu⟩ := h.lm
  refine (wtake_none hu h.ws.tbl.qu).mono ?_
  rintro e w' ⟨rfl, u', hl, hk, -⟩
  exact ⟨rfl, ⟨⟨u', hl⟩, h.ws, h.mks, h.dr, h.ma, h.sl⟩, hk⟩
theorem ls_row {F : List Int} {rn qn : List Nat} {mk : Nat → Bool} (h : LS Kx S m F rn qn mk W) (hN : m.weaks.length < 1000) :
    Calls Try.prog 26 #[.pointer (some ⟨S.tb, 0, none⟩)] W fun e w' => ∃ v, e = .returned v ∧ Rw 0 w' v (rn.map (pl m)) ∧ LS (fun b => Kx b ∨ v.ownBlock = some b) S m F rn qn mk w' ∧ Kp Kx W w' := by
  obtain ⟨u, hu⟩ := h.lm
  have := h.ws.ln
  refine (row_any hu h.ws.tbl (by simp; omega)).mono ?_
  rintro e w' ⟨v, rfl, hv, hl, hk⟩
  exact ⟨v, rfl, hv, ⟨hl, h.ws, h.mks, h.dr, h.ma, h.sl⟩, hk⟩
theorem ls_queue {F : List Int} {rn qn : List Nat} {mk : Nat → Bool} (h : LS Kx S m F rn qn mk W) (hN : m.weaks.length < 1000) :
    Calls Try.prog 22 #[.pointer (some ⟨S.tb, 0, none⟩)] W fun e w' => ∃ v, e = .returned v ∧ Rw 0 w' v (qn.map (pl m)) ∧ LS (fun b => Kx b ∨ v.ownBlock = some b) S m F rn qn mk w' ∧ Kp Kx W w' := by
  obtain ⟨u, hu⟩ := h.lm
  have := h.ws.ln
  refine (queue_any hu h.ws.tbl (by simp; omega)).mono ?_
  rintro e w' ⟨v, rfl, hv, hl, hk⟩
  exact ⟨v, rfl, hv, ⟨hl, h.ws, h.mks, h.dr, h.ma, h.sl⟩, hk⟩
theorem LS.less {F : List Int} {rn qn : List Nat} {mk : Nat → Bool} {K2 : Nat → Prop} (h : LS Kx S m F rn qn mk W) (k : ∀ b, K2 b → Kx b) : LS K2 S m F rn qn mk W := by
  obtain ⟨u, hu⟩ := h.lm
  exact ⟨⟨u, hu.less k⟩, h.ws, h.mks, h.dr, h.ma, h.sl⟩
end
theorem ls_made (W : World) : Calls Try.prog 9 #[] W fun e w' => ∃ S : LSp, e = .returned (.tuple #[.pointer (some ⟨S.wb, 0, none⟩), .bool true]) ∧ LS (fun b => b < W.heap.size) S m0 [] [] [] (fun _ => true) w' ∧ Below W.heap.size W w' := by
  refine (made_any W).mono ?_
  rintro e w' ⟨S, rfl, hl, hb⟩
  exact ⟨S, rfl, ⟨hl, Wst.none, Mkd.none _, Nat.le_refl _, Nat.le_refl _, Nat.le_refl _⟩, hb⟩
end Go.Proofs.Ythliahaopelooaa
/- The document's example of layer 17: it comes out. -/
namespace Go.Proofs.Ythliahaopelooaa
open Go.RowKit
set_option maxHeartbeats 16000000 in
set_option maxRecDepth 100000 in
theorem wawake_any (w : World) : Calls Try.prog 8 #[] w fun e w' => e = .returned (.bool true) ∧ Below w.heap.size w w' := by
  go_enter Try.func8, Try.ntmps8
  go_wp2_with fail
  refine (ls_made w).mono ?_
  rintro e w1 ⟨S, rfl, h1, hb1⟩
  have HA := Lib.hid (ls_add h1 (by decide))
  have hk1 : Kp (fun b => b < w.heap.size) w w1 := Kp.of_below hb1 fun _ h => h
  clear hb1 h1
  go_wp2_with fail
  refine HA.out.mono ?_
  rintro e w2 ⟨rfl, m2, F2, h2, k2, o2, -⟩
  have n2 : m2.weaks.length = 1 := o2.n
  have HK2 := Lib.hid (hk1.trans k2)
  have HO2 := Lib.hid (And.intro o2.par (And.intro o2.cy n2))
  have HA2 := Lib.hid (ls_add h2 (by omega))
  clear h2 k2 o2 HA hk1 n2
  go_wp2_with fail
  refine HA2.out.mono ?_
  rintro e w3 ⟨rfl, m3, F3, h3, k3, o3, -⟩
  have n3 : m3.weaks.length = 2 := by rw [o3.n, HO2.out.2.2]
  have hn2 := HO2.out.2.2
  rw [hn2] at h3
  have cy3 : m3.cy = false := o3.cy.trans HO2.out.2.1
  have H3 := Lib.hid h3
  obtain ⟨u3, hu3⟩ := h3.lm
  have c0 := hu3.c0
  have HB3 := Lib.hid (ls_begin h3 cy3)
  have HK3 := Lib.hid (HK2.out.trans k3)
  have HN3 := Lib.hid n3
  clear h3 k3 o3 HA2 HK2 HO2 hu3 n3 cy3 hn2
  go_wp2_with fail
  refine HB3.out.mono ?_
  rintro e w4 ⟨rfl, h4, k4⟩
  have HK4 := Lib.hid (HK3.out.trans k4)
  have n4 : ({ m3 with cy := true, par := 1 - m3.par } : LM).weaks.length = 2 := HN3.out
  have r4 : (m0.weaks.length :: ([] : List Nat)) = [0] := rfl
  rw [r4] at h4
  clear k4 HB3 HK3 c0 HN3 H3 r4
  generalize ({ m3 with cy := true, par := 1 - m3.par } : LM) = m4 at *
  have hdr : Below w4.heap.size w4 w4.drew := (Below.refl _ _).drew
  have h4d := h4.later hdr
  obtain ⟨u4, hu4⟩ := h4d.1.lm
  have c0 := hu4.c0
  obtain ⟨a, cap, c3, hke⟩ := hu4.keysAt
  have hlk : m4.keys.length = 2 := by rw [h4.ws.lk]; exact n4
  rw [hlk] at c3 hke
  obtain ⟨g, rfl, c5⟩ := hke 1 (by decide)
  have hlt : (1 : Int) < 2 := by decide
  have HS4 := Lib.hid (ls_shade h4d.1 (n := 1) (by omega))
  have HK5 := Lib.hid (HK4.out.trans h4d.2)
  have HN4 := Lib.hid n4
  clear h4 h4d hu4 hke hlk hdr HK4 n4
  generalize kl m4 1 = key at *
  go_upto_region 4 with fail
  go_region_law (refine step_wanted rfl ?_; go_simp; go_at_call 27; refine HS4.out.mono ?_; rintro e w5 ⟨rfl, m5, h5, k5, ew5, ek5, -, -, -, -, -⟩)
  all_goals
    have HK6 := Lib.hid (HK5.out.trans k5)
    have n5 : m5.weaks.length = 2 := by rw [ew5]; exact HN4.out
    obtain ⟨u5, hu5⟩ := h5.lm
    have c1 := hu5.c1
    have HT5 := Lib.hid (ls_tbegin h5)
    have HN5 := Lib.hid n5
    clear h5 k5 ew5 ek5 hu5 n5 HK5 HN4 HS4 c0 c3 c5
    go_wp2_with fail
    refine HT5.out.mono ?_
    rintro e w6 ⟨rfl, h6, k6⟩
    have HK7 := Lib.hid (HK6.out.trans k6)
    have n6 : ({ m5 with nx := ([1, 0].map (pl m5)).headD 0 } : LM).weaks.length = 2 := HN5.out
    have x6 : ({ m5 with nx := ([1, 0].map (pl m5)).headD 0 } : LM).nx = pl ({ m5 with nx := ([1, 0].map (pl m5)).headD 0 } : LM) 1 := rfl
    clear k6 HT5 HK6 c1 HN5
    generalize ({ m5 with nx := ([1, 0].map (pl m5)).headD 0 } : LM) = m6 at *
    obtain ⟨u6, hu6⟩ := h6.lm
    have c1 := hu6.c1
    have HS6 := Lib.hid (ls_step (pre := []) (suf := [0]) (n := 1) h6 x6 (by omega))
    have HN6 := Lib.hid n6
    clear h6 hu6 n6 x6
    go_wp2_with fail
    refine HS6.out.mono ?_
    rintro e w7 ⟨rfl, m7, h7, k7, ew7, ek7, ex7, -, -, -, -⟩
    have HK8 := Lib.hid (HK7.out.trans k7)
    have n7 : m7.weaks.length = 2 := by rw [ew7]; exact HN6.out
    have x7 : m7.nx = pl m7 0 := by rw [ex7]; unfold pl; rw [ew7]; rfl
    obtain ⟨u7, hu7⟩ := h7.lm
    replace c1 := hu7.c1
    have h7' : LS (fun b => b < w.heap.size) S m7 F3 [1, 0] [] (fun i => (false || decide (i = 1))) w7 := h7
    have HS7 := Lib.hid (ls_step (pre := [1]) (suf := []) (n := 0) h7' x7 (by omega))
    have HN7 := Lib.hid n7
    clear h7 hu7 n7 x7 k7 ew7 ek7 ex7 h7' HS6 HK7 HN6
    go_wp2_with fail
    refine HS7.out.mono ?_
    rintro e w8 ⟨rfl, m8, h8, k8, ew8, ek8, ex8, -, -, esh8, -⟩
    have HK9 := Lib.hid (HK8.out.trans k8)
    have n8 : m8.weaks.length = 2 := by rw [ew8]; exact HN7.out
    obtain ⟨u8, hu8⟩ := h8.lm
    replace c1 := hu8.c1
    have h8' : LS (fun b => b < w.heap.size) S m8 F3 [1] [0] (fun i => (false || decide (i = 1))) w8 := h8
    have p0 : pl m8 0 = pl m8 0 := rfl
    obtain ⟨a9, cap9, c9, hw9⟩ := hu8.weaksAt
    have HT8 := Lib.hid (ls_take (n := 0) (qs := []) h8' (by omega))
    have HN8 := Lib.hid n8
    clear h8 hu8 n8 k8 ew8 ek8 ex8 esh8 h8' HS7 HK8 HN7 c9 hw9 p0
    go_wp2_with fail
    refine HT8.out.mono ?_
    rintro e w9 ⟨rfl, m9, h9, k9, ew9, -, -, -, -, -, -, -⟩
    obtain ⟨u9, hu9⟩ := h9.lm
    have n9 : m9.weaks.length = 2 := by rw [ew9]; exact HN8.out
    have e9 : pl m9 0 = pl m8 0 := by unfold pl; rw [ew9]
    obtain ⟨a9, cap9, c9, hw9⟩ := hu9.weaksAt
    rw [n9] at c9 hw9
    obtain ⟨g9, rfl, d9⟩ := hw9 0 (by decide)
    rw [e9] at d9
    have HE := Lib.hid (HK9.out.trans k9).below
    have hlt2 : (0 : Int) < 2 := by decide
    clear h9 hu9 n9 e9 hw9 k9 ew9 HT8 HK9 HN8 c1
    generalize pl m8 0 = q at *
    go_wp2_with fail
    go_ret
    exact ⟨rfl, HE.out⟩
end Go.Proofs.Ythliahaopelooaa
/- Lists held against each other; rows held against each other; a ring that is made; List by its rows. -/
namespace Go.Proofs.Ythliahaopelooaa
open Go.RowKit Go.Shelf
theorem take_eq {a b : List Int} {k : Nat} (h : a.take k = b.take k) (ha : k < a.length) (hb : k < b.length) : a.take (k + 1) = b.take (k + 1) ↔ a[k] = b[k] := by
  rw [List.take_succ_eq_append_getElem ha, List.take_succ_eq_append_getElem hb, h, List.append_cancel_left_eq]
  simp
set_option maxHeartbeats 2000000 in
theorem ints_any (va vb : Value) (la lb : List Int) (lo hi lo' hi' : Nat) (w : World) (ha : Row w lo hi va la) (hb : Row w lo' hi' vb lb) (sa : la.length ≤ 100000) (sb : lb.length ≤ 100000) :
    Calls Try.prog 28 #[va, vb] w fun e w' => e = .returned (.bool (decide (la = lb))) ∧ Below w.heap.size w w' := by
  obtain ⟨ao, ca, rfl, hca⟩ := ha
  obtain ⟨bo, cb, rfl, hcb⟩ := hb
  obtain ⟨n, hn⟩ : ∃ n, la.length = n := ⟨_, rfl⟩
  obtain ⟨m, hm⟩ : ∃ m, lb.length = m := ⟨_, rfl⟩
  rw [hn] at hca sa ⊢
  rw [hm] at hcb sb ⊢
  obtain ⟨X, hX⟩ : ∃ X, decide (la = lb) = X := ⟨_, rfl⟩
  rw [hX]
  by_cases g : n = m
  · subst g
    have HC := Lib.hid (And.intro hn (And.intro hm (And.intro hca (And.intro hcb hX))))
    clear hn hm hca hcb hX
    go_enter Try.func28, Try.ntmps28
    go_wp2_with fail
    go_loopw [5] (fun s5 wr => ∃ k : Nat, k ≤ n ∧ s5 = .int .i64 k ∧ la.take k = lb.take k ∧ Below w.heap.size w wr) (fun s5 _ => n - (intOf s5).toNat)
    case atStart => exact ⟨0, Nat.zero_le _, rfl, by simp, Below.refl _ _⟩
    case round =>
      obtain ⟨k, hk, rfl, ht, hB⟩ := hrel
      by_cases hlt : k < n
      · have hlt' : (k : Int) < (n : Int) := by omega
        obtain ⟨h1, h2, h3, h4, h5⟩ := HC.out
        obtain ⟨g1, rfl, _, _, hx⟩ := h3 (by omega)
        obtain ⟨g2, rfl, _, _, hy⟩ := h4 (by omega)
        have ea : la[k]? = some (la[k]'(by omega)) := List.getElem?_eq_getElem (by omega)
        have eb : lb[k]? = some (lb[k]'(by omega)) := List.getElem?_eq_getElem (by omega)
        have c0 := later' (hB.mono (Nat.le_refl _)) (hx k _ ea)
        have c1 := later' (hB.mono (Nat.le_refl _)) (hy k _ eb)
        have htk := take_eq ht (by omega) (by omega)
        generalize la[k]'(by omega) = x at c0 htk
        generalize lb[k]'(by omega) = y at c1 htk
        have hne : la = lb → x = y := fun e => htk.1 (by rw [e])
        have HB := Lib.hid hB
        have HT := Lib.hid (And.intro htk hne)
        clear h1 h2 h3 h4 h5 hx hy ea eb ht htk hne hB
        by_cases exy : x = y
        · subst exy
          go_wp2_with fail
          go_quiet (fail)
          go_wp2_with fail
          exact ⟨⟨k + 1, by omega, by go_num, HT.out.1.2 (by first | rfl | trivial), onB' HB.out ⟨rfl, rfl, rfl, Nat.le_refl _, fun _ _ => rfl⟩⟩, by simp [intOf]; omega⟩
        · have hne : (x == y) = false := by simpa using exy
          have hX := HC.out.2.2.2.2
          rw [decide_eq_false (fun e => exy (HT.out.2 e))] at hX
          subst hX
          go_wp2_with fail
          go_quiet (fail)
          go_wp2_with fail
          go_ret
          exact ⟨rfl, onB' HB.out ⟨rfl, rfl, rfl, Nat.le_refl _, fun _ _ => rfl⟩⟩
      · obtain rfl : k = n := by omega
        have HB := Lib.hid hB
        obtain ⟨h1, h2, _, _, hX⟩ := HC.out
        have he : la = lb := by
          rw [← List.take_length (l := la), ← List.take_length (l := lb), h1, h2]
          exact ht
        rw [decide_eq_true he] at hX
        subst hX
        clear hB ht he h1 h2
        go_wp2_with fail
        go_ret
        exact ⟨rfl, HB.out⟩
  · have hnm : ((n : Int) == (m : Int)) = false := by simp; omega
    have he : ¬ la = lb := fun e => g (by rw [← hn, ← hm, e])
    rw [decide_eq_false he] at hX
    subst hX
    clear hn hm hca hcb he
    go_enter Try.func28, Try.ntmps28
    go_wp2_with fail
    go_ret
    exact ⟨rfl, Below.refl _ _⟩
/-- Four rows, held against four: each pair is the same. -/
def Fours (W : World) (lo hi : Nat) (v0 v1 v2 v3 : Value) (R : Rows) : Prop := Row W lo hi v0 R.white ∧ Row W lo hi v1 R.frm ∧ Row W lo hi v2 R.grey ∧ Row W lo hi v3 R.black
theorem Fours.below {W W' : World} {lo hi B : Nat} {v0 v1 v2 v3 : Value} {R : Rows} (h : Fours W lo hi v0 v1 v2 v3 R) (hb : Below B W W') (hB : hi ≤ B) : Fours W' lo hi v0 v1 v2 v3 R :=
  ⟨h.1.below hb hB, h.2.1.below hb hB, h.2.2.1.below hb hB, h.2.2.2.below hb hB⟩
theorem Fours.mono {W : World} {lo hi lo' hi' : Nat} {v0 v1 v2 v3 : Value} {R : Rows} (h : Fours W lo hi v0 v1 v2 v3 R) (h1 : lo' ≤ lo) (h2 : hi ≤ hi') : Fours W lo' hi' v0 v1 v2 v3 R :=
  ⟨h.1.mono h1 h2, h.2.1.mono h1 h2, h.2.2.1.mono h1 h2, h.2.2.2.mono h1 h2⟩
end Go.Proofs.Ythliahaopelooaa
/- Small facts for the walks of layer 17. -/
namespace Go.Proofs.Ythliahaopelooaa
open Go.RowKit
theorem dn_drop (n k : Nat) : (dn n).drop k = dn (n - k) := by
  induction n generalizing k with
  | zero => simp [dn]
  | succ n ih =>
    cases k with
    | zero => rfl
    | succ k =>
      simp only [dn, List.drop_succ_cons, Nat.succ_sub_succ_eq_sub]
      exact ih k
theorem dn_step {n k : Nat} (h : k < n) : dn (n - k) = (n - 1 - k) :: dn (n - 1 - k) := by
  obtain ⟨j, hj⟩ : ∃ j, n - k = j + 1 := ⟨n - k - 1, by omega⟩
  rw [hj, show n - 1 - k = j by omega]
  rfl
theorem dn_split {n k : Nat} (h : k < n) : dn n = (dn n).take k ++ (n - 1 - k) :: dn (n - 1 - k) := by
  have := (List.take_append_drop k (dn n)).symm
  rw [dn_drop, dn_step h] at this
  exact this
theorem dn_take {n k : Nat} (h : k < n) : (dn n).take (k + 1) = (dn n).take k ++ [n - 1 - k] := by
  have e : (dn n)[k]? = some (n - 1 - k) := by
    have h1 : ((dn n).drop k)[0]? = some (n - 1 - k) := by rw [dn_drop, dn_step h]; rfl
    rwa [List.getElem?_drop, Nat.add_zero] at h1
  rw [List.take_add_one, e]
  rfl
theorem dn_get {n k : Nat} (h : k < n) : (dn n)[k]? = some (n - 1 - k) := by
  have h1 : ((dn n).drop k)[0]? = some (n - 1 - k) := by rw [dn_drop, dn_step h]; rfl
  rwa [List.getElem?_drop, Nat.add_zero] at h1
theorem Rw.kp {Kx : Nat → Prop} {W W' : World} {v : Value} {l : List Int} (h : Rw 0 W v l) (hk : Kp Kx W W') (hv : ∀ g, v.ownBlock = some g → Kx g) : Rw 0 W' v l := own_samew h fun g hg => hk.block g (hv g hg)
theorem Rw.src {W : World} {v : Value} {l : List Int} (h : Rw 0 W v l) : Row W 0 W.heap.size v l := Row.of_own h
theorem rw_cell {W : World} {a : Option Addr} {n c : Nat} {l : List Int} (h : Rw 0 W (.slice a n c) l) {i : Nat} (hi : i < l.length) : ∃ g, a = some ⟨g, 0, none⟩ ∧ W.cell? ⟨g, i, none⟩ = some (.int .i64 (l.getD i 0)) := by
  obtain ⟨a', c', e, hc⟩ := rw_at h
  cases e
  exact hc i hi
theorem ints_rw {W : World} {va vb : Value} {la lb : List Int} (ha : Rw 0 W va la) (hb : Rw 0 W vb lb) (hl : la.length ≤ 1000) (hl2 : lb.length ≤ 1000) :
    Calls Try.prog 28 #[va, vb] W fun e w' => e = .returned (.bool (decide (la = lb))) ∧ Below W.heap.size W w' := ints_any va vb la lb _ _ _ _ W ha.src hb.src (by omega) (by omega)
theorem map_getD {l : List Nat} {f : Nat → Int} {k q : Nat} (h : l[k]? = some q) : (l.map f).getD k 0 = f q := by
  simp [List.getD_eq_getElem?_getD, h]
end Go.Proofs.Ythliahaopelooaa
