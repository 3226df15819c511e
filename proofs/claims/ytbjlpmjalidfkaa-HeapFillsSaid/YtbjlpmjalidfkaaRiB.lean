/- Rows of cells, by their colours: what a ring's numbers and links say of them; what each call makes of both. -/
import Derived.Test.YtbjlpmjalidfkaaRiA
namespace Go.Proofs.Ytbjlpmjalidfkaa
open Go.RowKit

structure Rows where
  white : List Int
  frm : List Int
  grey : List Int
  black : List Int

def Rows.all (R : Rows) : List Int := R.white ++ (R.frm ++ (R.grey ++ R.black))

def upd (C : Nat → Int) (k : Nat) (v : Int) : Nat → Int := fun j => if j = k then v else C j

/-- A ring's numbers, firsts and links are those of its rows. -/
structure Inv (n : Nat) (D C F : Nat → Int) (R : Rows) : Prop where
  c0 : C 0 = R.white.length
  c1 : C 1 = R.frm.length
  c2 : C 2 = R.grey.length
  c3 : C 3 = R.black.length
  f0 : ∀ x l, R.white = x :: l → F 0 = x
  f1 : ∀ x l, R.frm = x :: l → F 1 = x
  f2 : ∀ x l, R.grey = x :: l → F 2 = x
  f3 : ∀ x l, R.black = x :: l → F 3 = x
  cyc : Cyc D R.all
  fit : Fit n R.all
  small : R.all.length ≤ 1000

def start0 (C F : Nat → Int) : Int := if 0 < C 0 then F 0 else if 0 < C 1 then F 1 else if 0 < C 2 then F 2 else if 0 < C 3 then F 3 else 0
def start3 (C F : Nat → Int) : Int := if 0 < C 3 then F 3 else if 0 < C 0 then F 0 else if 0 < C 1 then F 1 else if 0 < C 2 then F 2 else 0

section
variable {n : Nat} {D C F : Nat → Int} {R : Rows}

theorem Inv.start0 (h : Inv n D C F R) : start0 C F = R.all.headD 0 := by
  obtain ⟨c0, c1, c2, c3, f0, f1, f2, f3, _, _, _⟩ := h
  unfold Go.Proofs.Ytbjlpmjalidfkaa.start0 Rows.all
  rw [c0, c1, c2, c3]
  cases h0 : R.white with
  | cons x l => simp [f0 x l h0]
  | nil =>
    cases h1 : R.frm with
    | cons x l => simp [f1 x l h1]
    | nil =>
      cases h2 : R.grey with
      | cons x l => simp [f2 x l h2]
      | nil =>
        cases h3 : R.black with
        | cons x l => simp [f3 x l h3]
        | nil => simp

theorem Inv.start3 (h : Inv n D C F R) : start3 C F = (R.black ++ (R.white ++ (R.frm ++ R.grey))).headD 0 := by
  obtain ⟨c0, c1, c2, c3, f0, f1, f2, f3, _, _, _⟩ := h
  unfold Go.Proofs.Ytbjlpmjalidfkaa.start3
  rw [c0, c1, c2, c3]
  cases h3 : R.black with
  | cons x l => simp [f3 x l h3]
  | nil =>
    cases h0 : R.white with
    | cons x l => simp [f0 x l h0]
    | nil =>
      cases h1 : R.frm with
      | cons x l => simp [f1 x l h1]
      | nil =>
        cases h2 : R.grey with
        | cons x l => simp [f2 x l h2]
        | nil => simp
end

/-- insert, in numbers. -/
def inserted (D : Nat → Int) (c x : Int) : Nat → Int := if x = 0 then join D c c else join (join D (D (x + 2).toNat) c) c x
def removed (D : Nat → Int) (c : Int) : Nat → Int := join D (D (c + 2).toNat) (D (c + 1).toNat)
def leftF (D F : Nat → Int) (c : Int) (k : Nat) : Nat → Int := if F k = c then upd F k (D (c + 1).toNat) else F
def lastF (C F : Nat → Int) (c : Int) (k : Nat) : Nat → Int := if C k = 0 then upd F k c else F

theorem cyc_inserted {D : Nat → Int} {n : Nat} {c : Int} {l : List Int} (hc : Cyc D l) (hf : Fit n (c :: l)) : Cyc (inserted D c (l.headD 0)) (l ++ [c]) := by
  cases l with
  | nil => exact cyc_alone (hf.rng c (by simp)).1
  | cons x l =>
    obtain ⟨z, _, e, h⟩ := cyc_insert hc hf
    have hx := hf.rng x (by simp)
    have : ¬ x = 0 := by omega
    rw [← e] at h
    simpa [inserted, this] using h

theorem cyc_removed {D : Nat → Int} {n : Nat} {c : Int} {l : List Int} (hc : Cyc D (c :: l)) (hf : Fit n (c :: l)) : Cyc (removed D c) l := by
  cases l with
  | nil => trivial
  | cons y l =>
    obtain ⟨z, _, e, h⟩ := cyc_remove hc hf
    rw [← e, ← cyc_next hc] at h
    rw [cyc_next hc] at h
    simpa [removed, cyc_next hc] using h

/-! What each call makes of rows. -/
def Rows.grow (R : Rows) (c : Int) : Rows := { R with white := c :: R.white }
def Rows.alloc (R : Rows) : Rows := { R with white := R.white.tail, black := R.black ++ R.white.take 1 }
def Rows.shade (R : Rows) (c : Int) : Rows := { R with frm := R.frm.erase c, grey := R.grey ++ [c] }
def Rows.done (R : Rows) : Rows := { R with grey := R.grey.dropLast, black := R.grey.drop (R.grey.length - 1) ++ R.black }
def Rows.begin (R : Rows) : Rows := { R with frm := R.black, black := [] }
def Rows.fin (R : Rows) : Rows := { R with white := R.white ++ R.frm, frm := [] }
def Rows.drop (R : Rows) : Rows := { R with white := R.white.tail }

section
variable {n : Nat} {D C F : Nat → Int} {R : Rows}

theorem Inv.grow (h : Inv n D C F R) {c : Int} (hf : Fit n (c :: R.all)) (hl : R.all.length < 1000) : Inv n (inserted D c (Go.Proofs.Ytbjlpmjalidfkaa.start0 C F)) (upd C 0 (C 0 + 1)) (upd F 0 c) (R.grow c) := by
  have e : (R.grow c).all = c :: R.all := rfl
  refine ⟨by simp [upd, h.c0, Rows.grow], by simp [upd, h.c1, Rows.grow], by simp [upd, h.c2, Rows.grow], by simp [upd, h.c3, Rows.grow], ?_, ?_, ?_, ?_, ?_, ?_, ?_⟩
  · intro x l hx
    cases hx
    rfl
  · intro x l hx; simpa [upd] using h.f1 x l hx
  · intro x l hx; simpa [upd] using h.f2 x l hx
  · intro x l hx; simpa [upd] using h.f3 x l hx
  · rw [e, h.start0]
    exact cyc_rot (a := R.all) (b := [c]) (cyc_inserted h.cyc hf)
  · rw [e]; exact hf
  · rw [e]; simp; omega

theorem Inv.alloc (h : Inv n D C F R) {c : Int} {l : List Int} (hw : R.white = c :: l) : Inv n D (upd (upd C 0 (C 0 - 1)) 3 (C 3 + 1)) (lastF C (leftF D F c 0) c 3) R.alloc := by
  obtain ⟨W, A, G, B⟩ := R
  simp only at hw
  subst hw
  obtain ⟨c0, c1, c2, c3, f0, f1, f2, f3, hc, hf, hs⟩ := h
  have e : (Rows.alloc ⟨c :: l, A, G, B⟩).all = (l ++ (A ++ (G ++ B))) ++ [c] := by simp [Rows.alloc, Rows.all]
  have ec : (Rows.all ⟨c :: l, A, G, B⟩) = [c] ++ (l ++ (A ++ (G ++ B))) := rfl
  have hF0 : F 0 = c := f0 c l rfl
  simp only at c0 c1 c2 c3 f0 f1 f2 f3
  refine ⟨by simp [upd, c0, Rows.alloc], by simp [upd, c1, Rows.alloc], by simp [upd, c2, Rows.alloc], by simp [upd, c3, Rows.alloc], ?_, ?_, ?_, ?_, ?_, ?_, ?_⟩
  · intro x m hx
    simp only [Rows.alloc, List.tail_cons] at hx
    subst hx
    have : D (c + 1).toNat = x := cyc_next hc
    by_cases e3 : C 3 = 0 <;> simp [lastF, leftF, upd, hF0, e3, this]
  · intro x m hx
    by_cases e3 : C 3 = 0 <;> simpa [lastF, leftF, upd, hF0, e3] using f1 x m hx
  · intro x m hx
    by_cases e3 : C 3 = 0 <;> simpa [lastF, leftF, upd, hF0, e3] using f2 x m hx
  · intro x m hx
    simp only [Rows.alloc, List.take_succ_cons, List.take_zero] at hx
    cases B with
    | nil =>
      obtain ⟨rfl, _⟩ := List.cons.inj hx
      have : C 3 = 0 := by simpa using c3
      simp [lastF, upd, this]
    | cons b B =>
      obtain ⟨rfl, _⟩ := List.cons.inj hx
      have : ¬ C 3 = 0 := by rw [c3]; simp; omega
      simpa [lastF, leftF, upd, hF0, this] using f3 b B rfl
  · rw [e]; exact cyc_rot (by rw [← ec]; exact hc)
  · rw [e]; exact hf.perm (by rw [ec]; exact List.perm_append_comm)
  · rw [e]; simp [Rows.all] at hs ⊢; omega

theorem Inv.drop (h : Inv n D C F R) {c : Int} {l : List Int} (hw : R.white = c :: l) : Inv n (removed D c) (upd C 0 (C 0 - 1)) (leftF D F c 0) R.drop := by
  obtain ⟨W, A, G, B⟩ := R
  simp only at hw
  subst hw
  obtain ⟨c0, c1, c2, c3, f0, f1, f2, f3, hc, hf, hs⟩ := h
  have e : (Rows.drop ⟨c :: l, A, G, B⟩).all = l ++ (A ++ (G ++ B)) := by simp [Rows.drop, Rows.all]
  have ec : (Rows.all ⟨c :: l, A, G, B⟩) = c :: (l ++ (A ++ (G ++ B))) := rfl
  have hF0 : F 0 = c := f0 c l rfl
  simp only at c0 c1 c2 c3 f0 f1 f2 f3
  refine ⟨by simp [upd, c0, Rows.drop], by simp [upd, c1, Rows.drop], by simp [upd, c2, Rows.drop], by simp [upd, c3, Rows.drop], ?_, ?_, ?_, ?_, ?_, ?_, ?_⟩
  · intro x m hx
    simp only [Rows.drop, List.tail_cons] at hx
    subst hx
    have : D (c + 1).toNat = x := cyc_next hc
    simp [leftF, upd, hF0, this]
  · intro x m hx; simpa [leftF, upd, hF0] using f1 x m hx
  · intro x m hx; simpa [leftF, upd, hF0] using f2 x m hx
  · intro x m hx; simpa [leftF, upd, hF0] using f3 x m hx
  · rw [e]; exact cyc_removed (by rw [← ec]; exact hc) (by rw [← ec]; exact hf)
  · rw [e]; exact Fit.tail (by rw [← ec]; exact hf)
  · rw [e]; have := hs; rw [ec] at this; simp at this ⊢; omega

/-- Shade's first half: the cell is let out. -/
theorem Inv.out (h : Inv n D C F R) {c : Int} {l m : List Int} (hw : R.frm = l ++ c :: m) : Inv n (removed D c) (upd C 1 (C 1 - 1)) (leftF D F c 1) { R with frm := l ++ m } ∧ Fit n (c :: Rows.all { R with frm := l ++ m }) ∧ (Rows.all { R with frm := l ++ m }).length < 1000 := by
  obtain ⟨W, A, G, B⟩ := R
  simp only at hw
  subst hw
  obtain ⟨c0, c1, c2, c3, f0, f1, f2, f3, hc, hf, hs⟩ := h
  have e : (Rows.all ⟨W, l ++ m, G, B⟩) = (W ++ l) ++ (m ++ (G ++ B)) := by simp [Rows.all]
  have ec : (Rows.all ⟨W, l ++ c :: m, G, B⟩) = (W ++ l) ++ (c :: (m ++ (G ++ B))) := by simp [Rows.all]
  have hf' : Fit n (c :: ((W ++ l) ++ (m ++ (G ++ B)))) := hf.perm (by rw [ec]; exact List.perm_middle)
  have hl : (Rows.all ⟨W, l ++ m, G, B⟩).length < 1000 := by
    have := hs
    rw [ec] at this
    rw [e]
    simp at this ⊢
    omega
  have hn : c ∉ l := fun hm => hf'.not_mem (List.mem_append_left _ (List.mem_append_right _ hm))
  have hcy : Cyc D (c :: ((m ++ (G ++ B)) ++ (W ++ l))) := by
    have := cyc_rot (D := D) (a := W ++ l) (b := c :: (m ++ (G ++ B))) (by rw [← ec]; exact hc)
    simpa using this
  simp only at c0 c1 c2 c3 f0 f1 f2 f3
  refine ⟨⟨by simp [upd, c0], ?_, by simp [upd, c2], by simp [upd, c3], ?_, ?_, ?_, ?_, ?_, ?_, Nat.le_of_lt hl⟩, by rw [e]; exact hf', hl⟩
  · simp [upd, c1]; omega
  · intro x k hx
    by_cases e1 : F 1 = c <;> simpa [leftF, upd, e1] using f0 x k hx
  · intro x k hx
    simp only at hx
    cases l with
    | nil =>
      simp only [List.nil_append] at hx
      subst hx
      have hF : F 1 = c := f1 c _ rfl
      have : D (c + 1).toNat = x := cyc_next hcy
      simp [leftF, upd, hF, this]
    | cons y l =>
      obtain ⟨rfl, _⟩ := List.cons.inj hx
      have hF : F 1 = y := f1 y _ rfl
      have : ¬ y = c := fun e => hn (by simp [e])
      simp [leftF, hF, this]
  · intro x k hx
    by_cases e1 : F 1 = c <;> simpa [leftF, upd, e1] using f2 x k hx
  · intro x k hx
    by_cases e1 : F 1 = c <;> simpa [leftF, upd, e1] using f3 x k hx
  · rw [e]
    exact cyc_rot (cyc_removed hcy (hf'.perm (List.Perm.cons c List.perm_append_comm)))
  · rw [e]; exact hf'.tail

/-- Shade's second half: it is let in, behind the grey ones. -/
theorem Inv.in (h : Inv n D C F R) {c : Int} (hf : Fit n (c :: R.all)) (hl : R.all.length < 1000) : Inv n (inserted D c (Go.Proofs.Ytbjlpmjalidfkaa.start3 C F)) (upd C 2 (C 2 + 1)) (lastF C F c 2) { R with grey := R.grey ++ [c] } := by
  have hs3 := h.start3
  obtain ⟨W, A, G, B⟩ := R
  obtain ⟨c0, c1, c2, c3, f0, f1, f2, f3, hc, _, hs⟩ := h
  simp only at c0 c1 c2 c3 f0 f1 f2 f3 hs3
  have ec : Rows.all ⟨W, A, G, B⟩ = (W ++ (A ++ G)) ++ B := by simp [Rows.all]
  have e : Rows.all ⟨W, A, G ++ [c], B⟩ = (W ++ (A ++ G) ++ [c]) ++ B := by simp [Rows.all]
  have hcy : Cyc D (B ++ (W ++ (A ++ G))) := cyc_rot (by rw [← ec]; exact hc)
  have hp : (c :: Rows.all ⟨W, A, G, B⟩).Perm (c :: (B ++ (W ++ (A ++ G)))) := by rw [ec]; exact List.Perm.cons c List.perm_append_comm
  refine ⟨by simp [upd, c0], by simp [upd, c1], by simp [upd, c2], by simp [upd, c3], ?_, ?_, ?_, ?_, ?_, ?_, ?_⟩
  · intro x k hx
    by_cases e2 : C 2 = 0 <;> simpa [lastF, upd, e2] using f0 x k hx
  · intro x k hx
    by_cases e2 : C 2 = 0 <;> simpa [lastF, upd, e2] using f1 x k hx
  · intro x k hx
    simp only at hx
    cases G with
    | nil =>
      obtain ⟨rfl, _⟩ := List.cons.inj hx
      have : C 2 = 0 := by simpa using c2
      simp [lastF, upd, this]
    | cons b G =>
      obtain ⟨rfl, _⟩ := List.cons.inj hx
      have : ¬ C 2 = 0 := by rw [c2]; simp; omega
      simpa [lastF, this] using f2 b G rfl
  · intro x k hx
    by_cases e2 : C 2 = 0 <;> simpa [lastF, upd, e2] using f3 x k hx
  · rw [e, hs3]
    have := cyc_inserted hcy (hf.perm hp)
    rw [List.append_assoc] at this
    exact cyc_rot this
  · rw [e]
    refine hf.perm (hp.trans ?_)
    have : (c :: (B ++ (W ++ (A ++ G)))).Perm ((B ++ (W ++ (A ++ G))) ++ [c]) := (List.perm_append_comm (l₁ := [c]) (l₂ := B ++ (W ++ (A ++ G))))
    refine this.trans ?_
    rw [List.append_assoc]
    exact List.perm_append_comm
  · rw [e]; have := hl; rw [ec] at this; simp at this ⊢; omega

theorem Inv.done (h : Inv n D C F R) {c : Int} {l : List Int} (hg : R.grey = l ++ [c]) : Inv n D (upd (upd C 2 (C 2 - 1)) 3 (C 3 + 1)) (upd F 3 c) R.done := by
  obtain ⟨W, A, G, B⟩ := R
  simp only at hg
  subst hg
  obtain ⟨c0, c1, c2, c3, f0, f1, f2, f3, hc, hf, hs⟩ := h
  simp only at c0 c1 c2 c3 f0 f1 f2 f3
  have ed : Rows.done ⟨W, A, l ++ [c], B⟩ = ⟨W, A, l, c :: B⟩ := by simp [Rows.done]
  have e : Rows.all ⟨W, A, l, c :: B⟩ = Rows.all ⟨W, A, l ++ [c], B⟩ := by simp [Rows.all]
  rw [ed]
  refine ⟨by simp [upd, c0], by simp [upd, c1], by simp [upd, c2], by simp [upd, c3], ?_, ?_, ?_, ?_, ?_, ?_, ?_⟩
  · intro x k hx; simpa [upd] using f0 x k hx
  · intro x k hx; simpa [upd] using f1 x k hx
  · intro x k hx
    simp only at hx
    subst hx
    simpa [upd] using f2 x _ rfl
  · intro x k hx
    obtain ⟨rfl, _⟩ := List.cons.inj hx
    simp [upd]
  · rw [e]; exact hc
  · rw [e]; exact hf
  · rw [e]; exact hs

theorem Inv.begin (h : Inv n D C F R) (h1 : R.frm = []) (h2 : R.grey = []) : Inv n D (upd (upd C 1 (C 1 + C 3)) 3 0) (upd F 1 (F 3)) R.begin := by
  obtain ⟨W, A, G, B⟩ := R
  simp only at h1 h2
  subst h1 h2
  obtain ⟨c0, c1, c2, c3, f0, f1, f2, f3, hc, hf, hs⟩ := h
  simp only at c0 c1 c2 c3 f0 f1 f2 f3
  have e : (Rows.begin ⟨W, [], [], B⟩).all = Rows.all ⟨W, [], [], B⟩ := by simp [Rows.begin, Rows.all]
  refine ⟨by simp [upd, c0, Rows.begin], by simp [upd, c1, c3, Rows.begin], by simp [upd, c2, Rows.begin], by simp [upd, Rows.begin], ?_, ?_, ?_, ?_, by rw [e]; exact hc, by rw [e]; exact hf, by rw [e]; exact hs⟩
  · intro x k hx; simpa [upd] using f0 x k hx
  · intro x k hx; simpa [upd] using f3 x k hx
  · intro x k hx; simp [Rows.begin] at hx
  · intro x k hx; simp [Rows.begin] at hx

theorem Inv.fin (h : Inv n D C F R) (h2 : R.grey = []) : Inv n D (upd (upd C 0 (C 0 + C 1)) 1 0) (lastF C F (F 1) 0) R.fin := by
  obtain ⟨W, A, G, B⟩ := R
  simp only at h2
  subst h2
  obtain ⟨c0, c1, c2, c3, f0, f1, f2, f3, hc, hf, hs⟩ := h
  simp only at c0 c1 c2 c3 f0 f1 f2 f3
  have e : (Rows.fin ⟨W, A, [], B⟩).all = Rows.all ⟨W, A, [], B⟩ := by simp [Rows.fin, Rows.all]
  refine ⟨by simp [upd, c0, c1, Rows.fin], by simp [upd, Rows.fin], by simp [upd, c2, Rows.fin], by simp [upd, c3, Rows.fin], ?_, ?_, ?_, ?_, by rw [e]; exact hc, by rw [e]; exact hf, by rw [e]; exact hs⟩
  · intro x k hx
    cases W with
    | nil =>
      have : C 0 = 0 := by simpa using c0
      simpa [lastF, upd, this] using f1 x k hx
    | cons y W =>
      obtain ⟨rfl, _⟩ := List.cons.inj hx
      have : ¬ C 0 = 0 := by rw [c0]; simp; omega
      simpa [lastF, this] using f0 y W rfl
  · intro x k hx; simp [Rows.fin] at hx
  · intro x k hx; simp [Rows.fin] at hx
  · intro x k hx
    by_cases e0 : C 0 = 0 <;> simpa [lastF, upd, e0] using f3 x k hx

/-- The cell ahead of all Black ones, of a ring that has a Grey one. -/
theorem Inv.lastGrey (h : Inv n D C F R) {c : Int} {l : List Int} (hg : R.grey = l ++ [c]) : ∃ x, Go.Proofs.Ytbjlpmjalidfkaa.start3 C F = x ∧ x ∈ R.all ∧ D (x + 2).toNat = c := by
  have hs3 := h.start3
  obtain ⟨W, A, G, B⟩ := R
  simp only at hg hs3
  subst hg
  have ec : Rows.all ⟨W, A, l ++ [c], B⟩ = (W ++ (A ++ l) ++ [c]) ++ B := by simp [Rows.all]
  have hcy : Cyc D ((B ++ (W ++ (A ++ l))) ++ [c]) := by
    have := cyc_rot (D := D) (a := W ++ (A ++ l) ++ [c]) (b := B) (by rw [← ec]; exact h.cyc)
    simpa using this
  have e3 : B ++ (W ++ (A ++ (l ++ [c]))) = (B ++ (W ++ (A ++ l))) ++ [c] := by simp
  rw [e3] at hs3
  obtain ⟨x, m, hx⟩ : ∃ x m, (B ++ (W ++ (A ++ l))) ++ [c] = x :: m := by
    cases h : (B ++ (W ++ (A ++ l))) ++ [c] with
    | nil => simp at h
    | cons x m => exact ⟨x, m, rfl⟩
  rw [hx] at hs3
  refine ⟨x, by simpa using hs3, ?_, cyc_last hcy (by rw [hx]; rfl)⟩
  have : x ∈ (B ++ (W ++ (A ++ l))) ++ [c] := by rw [hx]; simp
  rw [ec]
  simp at this ⊢
  rcases this with h | h | h | h | h <;> simp [h]
end

end Go.Proofs.Ytbjlpmjalidfkaa
