/- The document's Lex, in lists of bytes: letters, the longest sign, what is skipped. -/
import Derived.Test.YtkeeglpbhjnmdaaDoorLxR
import Derived.Test.YtkeeglpbhjnmdaaDoorLxP
namespace Go.Proofs.YtkeeglpbhjnmdaaDoor
open Go.RowKit Go.Lib

def smB (c : UInt8) : Bool := decide (97 ≤ c.toNat ∧ c.toNat ≤ 122)
def cpB (c : UInt8) : Bool := decide (65 ≤ c.toNat ∧ c.toNat ≤ 90)
def dgB (c : UInt8) : Bool := decide (48 ≤ c.toNat ∧ c.toNat ≤ 57)
def usB (c : UInt8) : Bool := decide (c.toNat = 95)
theorem inRun_all : ∀ n : Fin 256, inRun (UInt8.ofNat n.val) = (smB (UInt8.ofNat n.val) || cpB (UInt8.ofNat n.val) || dgB (UInt8.ofNat n.val) || usB (UInt8.ofNat n.val)) := by decide +kernel
theorem inRun_eq (c : UInt8) : inRun c = (smB c || cpB c || dgB c || usB c) := by
  have h := inRun_all ⟨c.toNat, c.toNat_lt⟩
  simpa using h
theorem run_cons (c : UInt8) (r : List UInt8) : runL (c :: r) = if inRun c = true then c :: runL r else [] := by
  unfold runL
  rw [List.takeWhile_cons]

/-- The texts of the document's lists. -/
def opsB : List ByteArray := [⟨#[43]⟩, ⟨#[45]⟩, ⟨#[42]⟩, ⟨#[47]⟩, ⟨#[37]⟩, ⟨#[61, 61]⟩, ⟨#[60]⟩, ⟨#[43, 46]⟩, ⟨#[45, 46]⟩, ⟨#[42, 46]⟩, ⟨#[47, 46]⟩, ⟨#[61, 61, 46]⟩, ⟨#[60, 46]⟩]
def punB : List ByteArray := [⟨#[40]⟩, ⟨#[41]⟩, ⟨#[123]⟩, ⟨#[125]⟩, ⟨#[59]⟩, ⟨#[61]⟩, ⟨#[45, 62]⟩, ⟨#[92]⟩]
def longM (M : List UInt8 → Bool) (b : ByteArray) (p : ByteArray) : ByteArray := if M p.data.toList = true ∧ b.size < p.size then p else b
def chosenM (M : List UInt8 → Bool) : ByteArray × Int := if (opsB.foldl (longM M) ⟨#[]⟩).size < (punB.foldl (longM M) ⟨#[]⟩).size then (punB.foldl (longM M) ⟨#[]⟩, 6) else (opsB.foldl (longM M) ⟨#[]⟩, 4)
def signOfM (M : List UInt8 → Bool) : Option (ByteArray × Int) := if (chosenM M).1.size = 0 then none else some (chosenM M)
def signM (M : List UInt8 → Bool) : Option (ByteArray × Int) := signsB.find? fun x => M x.1.data.toList
/-- The longest of some that a text begins with. -/
def longL (l : List UInt8) (ps : List ByteArray) : ByteArray := ps.foldl (longM (hasPrefix l)) ⟨#[]⟩
def sgChosen (l : List UInt8) : ByteArray × Int := chosenM (hasPrefix l)
/-- What of the next two bytes plays a part. -/
def mtF (c : UInt8) (d : Fin 4) (p4 : Bool) : List UInt8 → Bool
  | [a] => a == c
  | [a, b] => a == c && (if b = 46 then d == 0 else if b = 61 then d == 1 else if b = 62 then d == 2 else false)
  | [a, _, _] => a == c && p4
  | _ => false
theorem sign_fin : ∀ (n : Fin 256) (d : Fin 4) (p4 : Bool), signM (mtF (UInt8.ofNat n.val) d p4) = signOfM (mtF (UInt8.ofNat n.val) d p4) := by decide +kernel
def nextF : List UInt8 → Fin 4
  | [] => 3
  | d :: _ => if d = 46 then 0 else if d = 61 then 1 else if d = 62 then 2 else 3

theorem has_cons (c a : UInt8) (r p : List UInt8) : hasPrefix (c :: r) (a :: p) = (a == c && hasPrefix r p) := by
  unfold hasPrefix
  rfl
theorem has_nil (r : List UInt8) : hasPrefix r [] = true := by cases r <;> rfl
theorem has_nil' (a : UInt8) (p : List UInt8) : hasPrefix [] (a :: p) = false := rfl

theorem fold_same {M N : List UInt8 → Bool} : ∀ (l : List ByteArray) (b : ByteArray), (∀ x, x ∈ l → M x.data.toList = N x.data.toList) → l.foldl (longM M) b = l.foldl (longM N) b
  | [], _, _ => rfl
  | a :: l, b, h => by
    rw [List.foldl_cons, List.foldl_cons]
    have e : longM M b a = longM N b a := by unfold longM; rw [h a (List.mem_cons_self ..)]
    rw [e]
    exact fold_same l _ fun x hx => h x (List.mem_cons_of_mem _ hx)
theorem next_is (r : List UInt8) : hasPrefix r [46] = (nextF r == 0) ∧ hasPrefix r [61] = (nextF r == 1) ∧ hasPrefix r [62] = (nextF r == 2) := by
  cases r with
  | nil => decide
  | cons d r =>
    simp only [has_cons, has_nil, Bool.and_true, nextF]
    by_cases h1 : d = 46
    · subst h1; decide
    · by_cases h2 : d = 61
      · subst h2; decide
      · by_cases h3 : d = 62
        · subst h3; decide
        · have e : ∀ a : UInt8, d ≠ a → (a == d) = false := fun a ha => by simpa using Ne.symm ha
          rw [e _ h1, e _ h2, e _ h3, if_neg h1, if_neg h2, if_neg h3]
          decide
theorem mt_is (c : UInt8) (r : List UInt8) : ∀ x, x ∈ signsB.map Prod.fst ++ opsB ++ punB → hasPrefix (c :: r) x.data.toList = mtF c (nextF r) (hasPrefix r [61, 46]) x.data.toList := by
  obtain ⟨n1, n2, n3⟩ := next_is r
  intro x hx
  simp only [signsB, opsB, punB, List.map_cons, List.map_nil, List.cons_append, List.nil_append, List.mem_cons, List.not_mem_nil, or_false] at hx
  rcases hx with rfl | rfl | rfl | rfl | rfl | rfl | rfl | rfl | rfl | rfl | rfl | rfl | rfl | rfl | rfl | rfl | rfl | rfl | rfl | rfl | rfl | rfl | rfl | rfl | rfl | rfl | rfl | rfl | rfl | rfl | rfl | rfl | rfl | rfl | rfl | rfl | rfl | rfl | rfl | rfl | rfl | rfl
  all_goals
    rw [has_cons]
    simp [mtF, has_nil, n1, n2, n3]
def signOf (l : List UInt8) : Option (ByteArray × Int) := if (sgChosen l).1.size = 0 then none else some (sgChosen l)
/-- The first sign of the table is the longest of the document's lists. -/
theorem sign_long (c : UInt8) (r : List UInt8) : signL (c :: r) = signOf (c :: r) := by
  have hm := mt_is c r
  have hf := sign_fin ⟨c.toNat, c.toNat_lt⟩ (nextF r) (hasPrefix r [61, 46])
  simp only [UInt8.ofNat_toNat] at hf
  generalize mtF c (nextF r) (hasPrefix r [61, 46]) = N at hm hf
  have e1 : signL (c :: r) = signM N := find_same _ fun x hx => hm _ (List.mem_append_left _ (List.mem_append_left _ (List.mem_map_of_mem hx)))
  have e2 : opsB.foldl (longM (hasPrefix (c :: r))) ⟨#[]⟩ = opsB.foldl (longM N) ⟨#[]⟩ := fold_same _ _ fun x hx => hm _ (List.mem_append_left _ (List.mem_append_right _ hx))
  have e3 : punB.foldl (longM (hasPrefix (c :: r))) ⟨#[]⟩ = punB.foldl (longM N) ⟨#[]⟩ := fold_same _ _ fun x hx => hm _ (List.mem_append_right _ hx)
  have e4 : sgChosen (c :: r) = chosenM N := by unfold sgChosen chosenM; rw [e2, e3]
  unfold signOf
  rw [e1, e4, hf]
  rfl

/-- All of a text. -/
def lexF (l : List UInt8) (line : Int) (acc : List (Tk × Int)) : Res := lexA (l.length + 1) l line acc
theorem lexF_nil (line : Int) (acc : List (Tk × Int)) : lexF [] line acc = .good acc := by unfold lexF lexA; rfl
theorem lexF_nl (r : List UInt8) (line : Int) (acc : List (Tk × Int)) : lexF (10 :: r) line acc = lexF r (line + 1) acc := by
  unfold lexF
  conv => lhs; unfold lexA
  rw [if_pos rfl]
  exact fuel _ _ _ _ _ (by simp) (by omega)
theorem lexF_blank {c : UInt8} (r : List UInt8) (line : Int) (acc : List (Tk × Int)) (h10 : c ≠ 10) (h : c = 9 ∨ c = 13 ∨ c = 32) : lexF (c :: r) line acc = lexF r line acc := by
  unfold lexF
  conv => lhs; unfold lexA
  rw [if_neg h10, if_pos h]
  exact fuel _ _ _ _ _ (by simp) (by omega)
theorem drop_index : ∀ (l : List UInt8), l.dropWhile (fun c => c != 10) = if indexByte l 10 < 0 then [] else l.drop (indexByte l 10).toNat
  | [] => by simp [indexByte]
  | c :: l => by
    have ih := drop_index l
    obtain ⟨i1, i2, i3, -⟩ := index_le l 10
    rw [List.dropWhile_cons]
    by_cases g : c = 10
    · have e : indexByte (c :: l) 10 = 0 := by unfold indexByte; rw [if_pos (by simpa using g)]
      rw [e, g]
      rfl
    · have e1 : (c != 10) = true := by simpa using g
      rw [if_pos e1, ih]
      by_cases g2 : indexByte l 10 < 0
      · have e : indexByte (c :: l) 10 = -1 := by unfold indexByte; rw [if_neg (by simpa using g), if_pos (by rw [i3 g2]; rfl)]
        rw [if_pos g2, e, if_pos (by decide)]
      · have e : indexByte (c :: l) 10 = indexByte l 10 + 1 := by
          conv => lhs; unfold indexByte
          rw [if_neg (by simpa using g), if_neg (by simp; omega)]
        rw [if_neg g2, e, if_neg (by omega)]
        have e2 : (indexByte l 10 + 1).toNat = (indexByte l 10).toNat + 1 := by omega
        rw [e2, List.drop_succ_cons]
theorem lexF_rem {c : UInt8} {r : List UInt8} (line : Int) (acc : List (Tk × Int)) (h : hasPrefix (c :: r) [45, 45] = true) : lexF (c :: r) line acc = lexF ((c :: r).dropWhile fun c => c != 10) line acc := by
  have hc : c = 45 := by
    rw [has_cons] at h
    simp only [Bool.and_eq_true, beq_iff_eq] at h
    exact h.1.symm
  have h10 : c ≠ 10 := by rw [hc]; decide
  have hb : ¬ (c = 9 ∨ c = 13 ∨ c = 32) := by rw [hc]; decide
  rw [drop_index]
  unfold lexF
  conv => lhs; unfold lexA
  rw [if_neg h10, if_neg hb, if_pos h]
  have hip := index_pos (r := r) h10
  split
  · unfold lexA
    rfl
  · refine fuel _ _ _ _ _ ?_ (by omega)
    rw [List.length_drop, List.length_cons]
    omega
theorem lexF_tok {c : UInt8} {r : List UInt8} (line : Int) (acc : List (Tk × Int)) (h10 : c ≠ 10) (hb : ¬ (c = 9 ∨ c = 13 ∨ c = 32)) (h : hasPrefix (c :: r) [45, 45] = false) :
    lexF (c :: r) line acc = if (readL (c :: r)).2 = 0 then (if acc.length = 4096 then .bad 2 line else lexF ((c :: r).drop (readL (c :: r)).1.t.length) line (acc ++ [((readL (c :: r)).1, line)])) else .bad (readL (c :: r)).2 line := by
  unfold lexF
  conv => lhs; unfold lexA
  rw [if_neg h10, if_neg hb, if_neg (by rw [h]; decide)]
  split
  · rename_i hr
    have hle := read_len hr
    split
    · rfl
    · exact fuel _ _ _ _ _ (by rw [List.length_drop, List.length_cons]; omega) (by omega)
  · rfl

/-- Where a token may begin. -/
def Starts (l : List UInt8) : Prop := ∀ c r, l = c :: r → c ≠ 10 ∧ ¬ (c = 9 ∨ c = 13 ∨ c = 32) ∧ hasPrefix l [45, 45] = false

/-- A token as the document tells it, by its first byte. -/
def oneL (c : UInt8) (r : List UInt8) : Tk × Int :=
  if smB c = true ∨ cpB c = true then (if 16 < (runL (c :: r)).length then (.zero, 9) else (⟨refK (runL (c :: r)) c, runL (c :: r), false, 0⟩, 0))
  else if dgB c = true then numT (runL (c :: r))
  else if c = 35 then (if runL (trimPrefix r [45]) = [] then (.zero, 3) else numT (markedL (c :: r)))
  else if (sgChosen (c :: r)).1.size = 0 then (.zero, 3) else (⟨(sgChosen (c :: r)).2, (sgChosen (c :: r)).1.data.toList, false, 0⟩, 0)

theorem numT_bad {t : List UInt8} (h : (parseL (trimPrefix t [35])).2.2 = 3) : numT t = (.zero, 3) := by
  unfold numT
  rw [h, if_neg (by decide)]
theorem no_sign {c : UInt8} (r : List UInt8) (h : inRun c = true ∨ c = 35) : signL (c :: r) = none := by
  have h0 : ∀ x, x ∈ signsB → ∃ d q, x.1.data.toList = d :: q ∧ inRun d = false ∧ d ≠ 35 := by
    intro x hx
    simp only [signsB, List.mem_cons, List.not_mem_nil, or_false] at hx
    rcases hx with rfl | rfl | rfl | rfl | rfl | rfl | rfl | rfl | rfl | rfl | rfl | rfl | rfl | rfl | rfl | rfl | rfl | rfl | rfl | rfl | rfl
    all_goals exact ⟨_, _, rfl, by decide, by decide⟩
  unfold signL
  rw [List.find?_eq_none]
  intro x hx g
  obtain ⟨d, q, e, h1, h2⟩ := h0 x hx
  rw [e, has_cons] at g
  simp only [Bool.and_eq_true, beq_iff_eq] at g
  obtain rfl := g.1
  rcases h with h | h
  · rw [h1] at h; cases h
  · exact h2 h
theorem smB_iff (c : UInt8) : smB c = true ↔ Sm c := by unfold smB Sm; exact decide_eq_true_iff
theorem cpB_iff (c : UInt8) : cpB c = true ↔ Cp c := by unfold cpB Cp; exact decide_eq_true_iff
theorem dgB_iff (c : UInt8) : dgB c = true ↔ Dg c := by unfold dgB Dg; exact decide_eq_true_iff
theorem mem_all : ∀ n : Fin 256, decide (UInt8.ofNat n.val ∈ smallsB.data.toList) = smB (UInt8.ofNat n.val) ∧ decide (UInt8.ofNat n.val ∈ capsB.data.toList) = cpB (UInt8.ofNat n.val) ∧ decide (UInt8.ofNat n.val ∈ digsB.data.toList) = dgB (UInt8.ofNat n.val) := by decide +kernel
theorem mem_of (c : UInt8) : decide (c ∈ smallsB.data.toList) = smB c ∧ decide (c ∈ capsB.data.toList) = cpB c ∧ decide (c ∈ digsB.data.toList) = dgB c := by
  have h := mem_all ⟨c.toNat, c.toNat_lt⟩
  simpa using h
theorem kputs_at (f : List UInt8 → Option Int) (l : List UInt8) (u : Int) (c : UInt8) : kputs f l u [c] = if c ∈ l then some u else f [c] := by
  unfold kputs
  by_cases h : c ∈ l
  · rw [if_pos ⟨c, h, rfl⟩, if_pos h]
  · rw [if_neg h, if_neg]
    rintro ⟨d, hd, e⟩
    simp only [List.cons.injEq, and_true] at e
    rw [e] at h
    exact h hd
theorem kputs_far (f : List UInt8 → Option Int) (l : List UInt8) (u : Int) (c d : UInt8) (r : List UInt8) : kputs f l u (c :: d :: r) = f (c :: d :: r) := by
  unfold kputs
  rw [if_neg]
  rintro ⟨x, hx, e⟩
  simp at e
def baseK (c : UInt8) : Int := if dgB c = true then 3 else if cpB c = true then 2 else if smB c = true then 1 else 0
theorem kind_one (c : UInt8) : (kindF [c]).getD 0 = baseK c ∧ (kindF [c] = none → baseK c = 0) := by
  obtain ⟨h1, h2, h3⟩ := mem_of c
  unfold kindF
  have e1 : c ∈ smallsB.data.toList ↔ smB c = true := by rw [← h1]; exact decide_eq_true_iff.symm
  have e2 : c ∈ capsB.data.toList ↔ cpB c = true := by rw [← h2]; exact decide_eq_true_iff.symm
  have e3 : c ∈ digsB.data.toList ↔ dgB c = true := by rw [← h3]; exact decide_eq_true_iff.symm
  simp only [kputs_at, word_one, e1, e2, e3]
  unfold baseK
  cases dgB c <;> cases cpB c <;> cases smB c <;> simp
theorem kindOf_eq {c : UInt8} {r : List UInt8} (h : inRun c = true) : kindOf (c :: r) = (wordF (runL (c :: r))).getD (baseK c) := by
  obtain ⟨k1, k2⟩ := kind_one c
  unfold kindOf
  rw [run_cons, if_pos h]
  have e1 : List.take 1 (c :: r) = [c] := rfl
  rw [e1]
  cases hr : runL r with
  | nil =>
    rw [word_one]
    cases hk : kindF [c] with
    | none => rw [hk] at k1; simpa using k1
    | some k => rw [hk] at k1; simpa using k1
  | cons d q =>
    have e : kindF (c :: d :: q) = wordF (c :: d :: q) := by
      unfold kindF
      rw [kputs_far, kputs_far, kputs_far]
    rw [e]
    cases hw : wordF (c :: d :: q) with
    | none => simpa using k1
    | some k => simp
theorem word_small {c : UInt8} {t : List UInt8} (h : smB c = false) : wordF (c :: t) = none := by
  cases hw : wordF (c :: t) with
  | none => rfl
  | some k =>
    obtain ⟨-, d, q, e, hs⟩ := word_some hw
    simp only [List.cons.injEq] at e
    obtain ⟨rfl, rfl⟩ := e
    rw [(smB_iff c).2 hs] at h
    cases h
theorem has35_iff (c : UInt8) (r : List UInt8) : hasPrefix (c :: r) [35] = true ↔ c = 35 := by
  rw [has_cons, has_nil]
  simp only [Bool.and_true, beq_iff_eq]
  exact ⟨Eq.symm, Eq.symm⟩
theorem marked_none {r : List UInt8} (h : runL (trimPrefix r [45]) = []) : numT (markedL (35 :: r)) = (.zero, 3) := by
  rcases minus_split r with ⟨q, rfl⟩ | g
  · have e : trimPrefix (45 :: q) [45] = q := by simp [trimPrefix, hasPrefix]
    rw [e] at h
    rw [marked_minus, h]
    exact numT_bad (by decide)
  · have e : trimPrefix r [45] = r := by simp [trimPrefix, g]
    rw [e] at h
    rw [marked_plain g, h]
    exact numT_bad (by decide)

/-- THE DOCUMENT's TOKEN IS THE PROGRAM's. -/
theorem one_read (c : UInt8) (r : List UInt8) : readL (c :: r) = oneL c r := by
  have hin := inRun_eq c
  unfold oneL
  by_cases h1 : smB c = true ∨ cpB c = true
  · have hi : inRun c = true := by rw [hin]; rcases h1 with h | h <;> simp [h]
    have h35 : ¬ c = 35 := by
      intro e
      subst e
      rcases h1 with h | h <;> revert h <;> decide
    have hd : dgB c = false := by
      rw [Bool.eq_false_iff]
      intro hd
      rw [dgB_iff] at hd
      rw [smB_iff, cpB_iff] at h1
      unfold Sm Cp at h1
      unfold Dg at hd
      omega
    rw [if_pos h1]
    have hk := kindOf_eq (r := r) hi
    have hrf : (wordF (runL (c :: r))).getD (baseK c) = refK (runL (c :: r)) c := by
      unfold refK baseK
      rw [hd]
      cases hc : cpB c with
      | true =>
        have := (cpB_iff c).1 hc
        unfold Cp at this
        simp [this]
      | false =>
        have hc' : ¬ (65 ≤ c.toNat ∧ c.toNat ≤ 90) := fun h => by
          rw [(cpB_iff c).2 h] at hc
          cases hc
        rw [hc] at h1
        have hs : smB c = true := h1.resolve_right (by decide)
        simp [hs, hc']
    rw [hrf] at hk
    have hk03 : refK (runL (c :: r)) c ≠ 0 ∧ refK (runL (c :: r)) c ≠ 3 := by
      unfold refK
      cases hw : wordF (runL (c :: r)) with
      | none =>
        simp only [Option.getD_none]
        split <;> decide
      | some k =>
        obtain ⟨h57, -⟩ := word_some hw
        simp only [Option.getD_some]
        omega
    unfold readL
    rw [no_sign r (Or.inl hi)]
    simp only
    rw [if_neg (by rw [has35_iff]; exact h35)]
    unfold readR
    rw [hk, if_neg hk03.1, if_neg hk03.2]
  · rw [if_neg h1]
    simp only [not_or, Bool.not_eq_true] at h1
    by_cases h2 : dgB c = true
    · have hi : inRun c = true := by rw [hin]; simp [h2]
      have h35 : ¬ c = 35 := by
        intro e
        subst e
        revert h2
        decide
      rw [if_pos h2]
      have hk := kindOf_eq (r := r) hi
      have hw : wordF (runL (c :: r)) = none := by rw [run_cons, if_pos hi]; exact word_small h1.1
      have hb : baseK c = 3 := by unfold baseK; rw [h2]; rfl
      rw [hw, hb] at hk
      unfold readL
      rw [no_sign r (Or.inl hi)]
      simp only
      rw [if_neg (by rw [has35_iff]; exact h35)]
      unfold readR
      rw [hk]
      rfl
    · rw [if_neg h2]
      simp only [Bool.not_eq_true] at h2
      by_cases h3 : c = 35
      · rw [if_pos h3]
        subst h3
        unfold readL
        rw [no_sign r (Or.inr rfl)]
        simp only
        rw [if_pos ((has35_iff 35 r).2 rfl)]
        split
        · rename_i g
          exact marked_none g
        · rfl
      · rw [if_neg h3]
        have hs := sign_long c r
        unfold signOf at hs
        unfold readL
        rw [hs]
        by_cases h4 : (sgChosen (c :: r)).1.size = 0
        · rw [if_pos h4, if_pos h4]
          simp only
          rw [if_neg (by rw [has35_iff]; exact h3)]
          have hk : kindOf (c :: r) = 0 := by
            by_cases hi : inRun c = true
            · rw [kindOf_eq hi, run_cons, if_pos hi, word_small h1.1]
              unfold baseK
              rw [h2, h1.1, h1.2]
              rfl
            · refine kindOf_nil ?_
              rw [run_cons, if_neg hi]
          unfold readR
          rw [hk]
          rfl
        · rw [if_neg h4, if_neg h4]

end Go.Proofs.YtkeeglpbhjnmdaaDoor
