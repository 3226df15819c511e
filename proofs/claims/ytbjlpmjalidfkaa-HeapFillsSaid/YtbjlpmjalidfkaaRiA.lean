/- Cells that are linked, all around, in words: what a link changes; a cell that is let in, and one that is let out. -/
import Derived.Test.YtbjlpmjalidfkaaArC
namespace Go.Proofs.Ytbjlpmjalidfkaa
open Go.RowKit

/-- A word put. -/
def put (D : Nat → Int) (i v : Int) : Nat → Int := fun k => if k = i.toNat then v else D k
/-- A cell and its next one lead to each other. -/
def join (D : Nat → Int) (a b : Int) : Nat → Int := put (put D (a + 1) b) (b + 2) a
def Jn (D : Nat → Int) (x y : Int) : Prop := D (x + 1).toNat = y ∧ D (y + 2).toNat = x

def Chain (D : Nat → Int) : List Int → Prop
  | [] => True
  | [_] => True
  | x :: y :: l => Jn D x y ∧ Chain D (y :: l)

theorem chain_append (D : Nat → Int) (x : Int) (b : List Int) : ∀ a : List Int, Chain D (a ++ x :: b) ↔ Chain D (a ++ [x]) ∧ Chain D (x :: b)
  | [] => by simp [Chain]
  | [y] => by simp [Chain]
  | y :: z :: a => by
    have h := chain_append D x b (z :: a)
    simp only [List.cons_append, Chain] at h ⊢
    rw [h]
    exact and_assoc.symm

theorem Chain.tail {D : Nat → Int} {x : Int} {l : List Int} (h : Chain D (x :: l)) : Chain D l := by
  cases l with
  | nil => trivial
  | cons y l => exact h.2

theorem chain_at {D : Nat → Int} {a b : List Int} {x y : Int} (h : Chain D (a ++ x :: y :: b)) : Jn D x y := ((chain_append D x (y :: b) a).1 h).2.1

/-- Two cells are one, or share no word. -/
def Off (x y : Int) : Prop := x = y ∨ x + 3 ≤ y ∨ y + 3 ≤ x
theorem Off.symm {x y : Int} (h : Off x y) : Off y x := by unfold Off at *; omega

theorem jn_join {D : Nat → Int} {a b : Int} (ha : 1 ≤ a) (hb : 1 ≤ b) (h : Off a b) : Jn (join D a b) a b := by
  unfold Off at h
  have e : ¬ (a + 1).toNat = (b + 2).toNat := by omega
  simp [Jn, join, put, e]

theorem jn_keep {D : Nat → Int} {a b x y : Int} (h : Jn D x y) (ha : 1 ≤ a) (hb : 1 ≤ b) (hx : 1 ≤ x) (hy : 1 ≤ y) (h1 : x ≠ a) (h2 : y ≠ b) (h3 : Off x b) (h4 : Off y a) : Jn (join D a b) x y := by
  unfold Off at h3 h4
  have e1 : ¬ (x + 1).toNat = (b + 2).toNat := by omega
  have e2 : ¬ (x + 1).toNat = (a + 1).toNat := by omega
  have e3 : ¬ (y + 2).toNat = (b + 2).toNat := by omega
  have e4 : ¬ (y + 2).toNat = (a + 1).toNat := by omega
  exact ⟨by simp [join, put, e1, e2, h.1], by simp [join, put, e3, e4, h.2]⟩

theorem chain_keep {D : Nat → Int} {a b : Int} (ha : 1 ≤ a) (hb : 1 ≤ b) : ∀ {l : List Int}, Chain D l → a ∉ l.dropLast → b ∉ l.tail → (∀ x, x ∈ l → 1 ≤ x ∧ Off x a ∧ Off x b) → Chain (join D a b) l
  | [], _, _, _, _ => trivial
  | [_], _, _, _, _ => trivial
  | x :: y :: l, h, h1, h2, h3 => by
    simp only [List.dropLast_cons_cons, List.mem_cons, not_or, List.tail_cons] at h1 h2
    have hx := h3 x (by simp)
    have hy := h3 y (by simp)
    refine ⟨jn_keep h.1 ha hb hx.1 hy.1 (Ne.symm h1.1) (Ne.symm h2.1) hx.2.2 hy.2.1, chain_keep ha hb h.2 h1.2 (by simpa using h2.2) fun z hz => h3 z (List.mem_cons_of_mem _ hz)⟩

/-- Linked both ways, all around. -/
def Cyc (D : Nat → Int) : List Int → Prop
  | [] => True
  | x :: l => Chain D (x :: (l ++ [x]))

theorem cyc_rot {D : Nat → Int} {a b : List Int} (h : Cyc D (a ++ b)) : Cyc D (b ++ a) := by
  cases a with
  | nil => simpa using h
  | cons x a =>
    cases b with
    | nil => simpa using h
    | cons y b =>
      simp only [List.cons_append, Cyc, List.append_assoc] at h ⊢
      have h1 := (chain_append D y (b ++ [x]) (x :: a)).1 h
      exact (chain_append D x (a ++ [y]) (y :: b)).2 ⟨h1.2, h1.1⟩

/-- Cells of an arena of so many words that share none. -/
structure Fit (n : Nat) (l : List Int) : Prop where
  rng : ∀ x, x ∈ l → 1 ≤ x ∧ x + 3 ≤ (n : Int)
  far : l.Pairwise fun x y => x + 3 ≤ y ∨ y + 3 ≤ x

theorem Fit.perm {n : Nat} {l m : List Int} (h : Fit n l) (hp : l.Perm m) : Fit n m :=
  ⟨fun x hx => h.rng x (hp.mem_iff.2 hx), (hp.pairwise_iff fun h => Or.symm h).1 h.far⟩
theorem Fit.tail {n : Nat} {l : List Int} {x : Int} (h : Fit n (x :: l)) : Fit n l := ⟨fun y hy => h.rng y (List.mem_cons_of_mem _ hy), (List.pairwise_cons.1 h.far).2⟩
theorem Fit.not_mem {n : Nat} {l : List Int} {x : Int} (h : Fit n (x :: l)) : x ∉ l := fun hx => by
  have := (List.pairwise_cons.1 h.far).1 x hx
  omega
theorem Fit.off {n : Nat} {l : List Int} (h : Fit n l) {x y : Int} (hx : x ∈ l) (hy : y ∈ l) : Off x y := by
  by_cases e : x = y
  · exact Or.inl e
  · right
    obtain ⟨a, b, rfl⟩ := List.append_of_mem hx
    have h1 := h.perm (List.perm_middle (a := x) (l₁ := a) (l₂ := b))
    refine (List.pairwise_cons.1 h1.far).1 y ?_
    have := (List.perm_middle (a := x) (l₁ := a) (l₂ := b)).mem_iff.1 hy
    simpa [Ne.symm e] using this
theorem Fit.nodup {n : Nat} {l : List Int} (h : Fit n l) : l.Nodup := h.far.imp fun h e => by omega

theorem cyc_last {D : Nat → Int} {h z : Int} {i : List Int} (hc : Cyc D (i ++ [z])) (hh : (i ++ [z]).head? = some h) : D (h + 2).toNat = z := by
  cases i with
  | nil =>
    obtain rfl : z = h := by simpa using hh
    exact hc.1.2
  | cons x i =>
    obtain rfl : x = h := by simpa using hh
    simp only [List.cons_append, Cyc, List.append_assoc] at hc
    exact (chain_at (a := x :: i) (b := []) hc).2

theorem ends (x : Int) (l : List Int) : ∃ i z, x :: l = i ++ [z] := ⟨_, _, (List.dropLast_concat_getLast (List.cons_ne_nil x l)).symm⟩

theorem cyc_insert {D : Nat → Int} {n : Nat} {c x : Int} {l : List Int} (hc : Cyc D (x :: l)) (hf : Fit n (c :: x :: l)) :
    ∃ z, z ∈ x :: l ∧ D (x + 2).toNat = z ∧ Cyc (join (join D z c) c x) (x :: l ++ [c]) := by
  obtain ⟨i, z, e⟩ := ends x l
  have hz : z ∈ x :: l := by rw [e]; simp
  have hr := hf.rng
  have hzc : z ∈ c :: x :: l := List.mem_cons_of_mem _ hz
  have hxc : x ∈ c :: x :: l := by simp
  have hcc : c ∈ c :: x :: l := by simp
  have hne : c ∉ x :: l := hf.not_mem
  refine ⟨z, hz, cyc_last (i := i) (h := x) (by rw [← e]; exact hc) (by rw [← e]; rfl), ?_⟩
  have h0 : Chain D (i ++ z :: [x]) := by
    have : Chain D ((x :: l) ++ [x]) := hc
    rw [e, List.append_assoc] at this
    exact this
  have h1 := (chain_append D z [x] i).1 h0
  have hzi : z ∉ i := by
    have hp := hf.tail.far
    rw [e, List.pairwise_append] at hp
    intro hm
    have := hp.2.2 z hm z (by simp)
    omega
  have hxl : x ∉ l := hf.tail.not_mem
  have ec : (x :: l ++ [c]) = x :: (l ++ [c]) := rfl
  rw [ec]
  have goal : Chain (join (join D z c) c x) (i ++ z :: [c, x]) := by
    refine (chain_append _ z [c, x] i).2 ⟨?_, ?_, ?_, trivial⟩
    · have k1 : Chain (join D z c) (i ++ [z]) := chain_keep (hr z hzc).1 (hr c hcc).1 h1.1 (by simpa using hzi) (by rw [← e]; exact fun h => hne (List.mem_of_mem_tail h)) fun y hy => by
        rw [← e] at hy
        have hyc : y ∈ c :: x :: l := List.mem_cons_of_mem _ hy
        exact ⟨(hr y hyc).1, hf.off hyc hzc, hf.off hyc hcc⟩
      refine chain_keep (hr c hcc).1 (hr x hxc).1 k1 ?_ (by rw [← e]; exact hxl) fun y hy => by
        rw [← e] at hy
        have hyc : y ∈ c :: x :: l := List.mem_cons_of_mem _ hy
        exact ⟨(hr y hyc).1, hf.off hyc hcc, hf.off hyc hxc⟩
      rw [← e]
      exact fun h => hne (List.dropLast_subset _ h)
    · exact jn_keep (jn_join (hr z hzc).1 (hr c hcc).1 (hf.off hzc hcc)) (hr c hcc).1 (hr x hxc).1 (hr z hzc).1 (hr c hcc).1 (fun h => hne (h ▸ hz)) (fun h => hne (h ▸ by simp)) (hf.off hzc hxc) (Or.inl rfl)
    · exact jn_join (hr c hcc).1 (hr x hxc).1 (hf.off hcc hxc)
  have e2 : x :: (l ++ [c] ++ [x]) = i ++ z :: [c, x] := by
    rw [show x :: (l ++ [c] ++ [x]) = (x :: l) ++ [c, x] by simp, e]
    simp
  show Chain _ (x :: (l ++ [c] ++ [x]))
  rw [e2]
  exact goal

theorem cyc_one {D : Nat → Int} {c : Int} (h : Cyc D [c]) : D (c + 1).toNat = c ∧ D (c + 2).toNat = c := h.1
theorem cyc_alone {D : Nat → Int} {c : Int} (h : 1 ≤ c) : Cyc (join D c c) [c] := ⟨jn_join h h (Or.inl rfl), trivial⟩

theorem cyc_next {D : Nat → Int} {c y : Int} {l : List Int} (h : Cyc D (c :: y :: l)) : D (c + 1).toNat = y := h.1.1

theorem cyc_remove {D : Nat → Int} {n : Nat} {c y : Int} {l : List Int} (hc : Cyc D (c :: y :: l)) (hf : Fit n (c :: y :: l)) :
    ∃ z, z ∈ y :: l ∧ D (c + 2).toNat = z ∧ Cyc (join D z y) (y :: l) := by
  obtain ⟨i, z, e⟩ := ends y l
  have hz : z ∈ y :: l := by rw [e]; simp
  have hr := hf.rng
  have hzc : z ∈ c :: y :: l := List.mem_cons_of_mem _ hz
  have hyc : y ∈ c :: y :: l := by simp
  refine ⟨z, hz, cyc_last (i := c :: i) (h := c) (by rw [List.cons_append, ← e]; exact hc) (by rfl), ?_⟩
  have h0 : Chain D (i ++ z :: [c]) := by
    have : Chain D ((y :: l) ++ [c]) := hc.tail
    rw [e, List.append_assoc] at this
    exact this
  have h1 := (chain_append D z [c] i).1 h0
  have hzi : z ∉ i := by
    have hp := hf.tail.far
    rw [e, List.pairwise_append] at hp
    intro hm
    have := hp.2.2 z hm z (by simp)
    omega
  have hyl : y ∉ l := hf.tail.not_mem
  have goal : Chain (join D z y) (i ++ z :: [y]) := by
    refine (chain_append _ z [y] i).2 ⟨?_, jn_join (hr z hzc).1 (hr y hyc).1 (hf.off hzc hyc), trivial⟩
    refine chain_keep (hr z hzc).1 (hr y hyc).1 h1.1 (by simpa using hzi) (by rw [← e]; exact hyl) fun x hx => ?_
    rw [← e] at hx
    have hxc : x ∈ c :: y :: l := List.mem_cons_of_mem _ hx
    exact ⟨(hr x hxc).1, hf.off hxc hzc, hf.off hxc hyc⟩
  have e2 : y :: (l ++ [y]) = i ++ z :: [y] := by
    rw [show y :: (l ++ [y]) = (y :: l) ++ [y] by simp, e]
    simp
  show Chain _ (y :: (l ++ [y]))
  rw [e2]
  exact goal

end Go.Proofs.Ytbjlpmjalidfkaa
