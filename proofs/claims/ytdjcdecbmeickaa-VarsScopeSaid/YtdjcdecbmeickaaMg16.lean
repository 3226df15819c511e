import Derived.Deep.QuietTactic
import Derived.BigQuiet
import Derived.Laws.DeepStrings4
import Derived.Test.YtdjcdecbmeickaaMg1
import Derived.Test.YtdjcdecbmeickaaMg4
import Derived.Test.YtdjcdecbmeickaaMg15
namespace Go.Proofs.Ytdjcdecbmeickaa
set_option maxHeartbeats 64000000
set_option maxRecDepth 100000
open Go.RowKit Go.Lib
def smB (c : UInt8) : Bool := decide (97 ≤ c.toNat ∧ c.toNat ≤ 122)
def cpB (c : UInt8) : Bool := decide (65 ≤ c.toNat ∧ c.toNat ≤ 90)
def dgB (c : UInt8) : Bool := decide (48 ≤ c.toNat ∧ c.toNat ≤ 57)
def usB (c : UInt8) : Bool := decide (c.toNat = 95)
theorem inRun_all : ∀ n : Fin 256, inRun (UInt8.ofNat n.val) = (smB (UInt8.ofNat n.val) || cpB (UInt8.ofNat n.val) || dgB (UInt8.ofNat n.val) || usB (UInt8.ofNat n.val)) := by decide +kernel
theorem inRun_eq (c : UInt8) : inRun c = (smB c || cpB c || dgB c || usB c) := by
  have h := inRun_all ⟨c.toNat, c.toNat_lt⟩
  simpa using h
theorem run_cons (c : UInt8) (r : List UInt8) : runL (c :: r) = if inRun c = true then c :: runL r else [] := by
  unfold runL
  rw [List.takeWhile_cons]
def opsB : List ByteArray := [⟨#[43]⟩, ⟨#[45]⟩, ⟨#[42]⟩, ⟨#[47]⟩, ⟨#[37]⟩, ⟨#[61, 61]⟩, ⟨#[60]⟩, ⟨#[43, 46]⟩, ⟨#[45, 46]⟩, ⟨#[42, 46]⟩, ⟨#[47, 46]⟩, ⟨#[61, 61, 46]⟩, ⟨#[60, 46]⟩]
def punB : List ByteArray := [⟨#[40]⟩, ⟨#[41]⟩, ⟨#[123]⟩, ⟨#[125]⟩, ⟨#[59]⟩, ⟨#[61]⟩, ⟨#[45, 62]⟩, ⟨#[92]⟩]
def longM (M : List UInt8 → Bool) (b : ByteArray) (p : ByteArray) : ByteArray := if M p.data.toList = true ∧ b.size < p.size then p else b
def chosenM (M : List UInt8 → Bool) : ByteArray × Int := if (opsB.foldl (longM M) ⟨#[]⟩).size < (punB.foldl (longM M) ⟨#[]⟩).size then (punB.foldl (longM M) ⟨#[]⟩, 6) else (opsB.foldl (longM M) ⟨#[]⟩, 4)
def signOfM (M : List UInt8 → Bool) : Option (ByteArray × Int) := if (chosenM M).1.size = 0 then none else some (chosenM M)
def signM (M : List UInt8 → Bool) : Option (ByteArray × Int) := signsB.find? fun x => M x.1.data.toList
def longL (l : List UInt8) (ps : List ByteArray) : ByteArray := ps.foldl (longM (hasPrefix l)) ⟨#[]⟩
def sgChosen (l : List UInt8) : ByteArray × Int := chosenM (hasPrefix l)
def mtF (c : UInt8) (d : Fin 4) (p4 : Bool) : List UInt8 → Bool
  | [a] => a == c
  | [a, b] => a == c && (if b = 46 then d == 0 else if b = 61 then d == 1 else if b = 62 then d == 2 else false)
  | [a, _, _] => a == c && p4
  | _ => false
theorem sign_fin : ∀ (n : Fin 256) (d : Fin 4) (p4 : Bool), signM (mtF (UInt8.ofNat n.val) d p4) = signOfM (mtF (UInt8.ofNat n.val) d p4) := by decide +kernel
def nextF : List UInt8 → Fin 4
  | [] => 3
  | d :: _ => if d = 46 then 0 else if d = 61 then 1 else if d = 62 then 2 else 3
theorem has_cons (c a : UInt8) (r p : List UInt8) : hasPrefix (c :: r) (a :: p) = (a == c && hasPrefix r p) := by
  unfold hasPrefix
  rfl
theorem has_nil (r : List UInt8) : hasPrefix r [] = true := by cases r <;> rfl
theorem has_nil' (a : UInt8) (p : List UInt8) : hasPrefix [] (a :: p) = false := rfl
theorem fold_same {M N : List UInt8 → Bool} : ∀ (l : List ByteArray) (b : ByteArray), (∀ x, x ∈ l → M x.data.toList = N x.data.toList) → l.foldl (longM M) b = l.foldl (longM N) b
  | [], _, _ => rfl
  | a :: l, b, h => by
    rw [List.foldl_cons, List.foldl_cons]
    have e : longM M b a = longM N b a := by unfold longM; rw [h a (List.mem_cons_self ..)]
    rw [e]
    exact fold_same l _ fun x hx => h x (List.mem_cons_of_mem _ hx)
theorem next_is (r : List UInt8) : hasPrefix r [46] = (nextF r == 0) ∧ hasPrefix r [61] = (nextF r == 1) ∧ hasPrefix r [62] = (nextF r == 2) := by
  cases r with
  | nil => decide
  | cons d r =>
    simp only [has_cons, has_nil, Bool.and_true, nextF]
    by_cases h1 : d = 46
    · subst h1; decide
    · by_cases h2 : d = 61
      · subst h2; decide
      · by_cases h3 : d = 62
        · subst h3; decide
        · have e : ∀ a : UInt8, d ≠ a → (a == d) = false := fun a ha => by simpa using Ne.symm ha
          rw [e _ h1, e _ h2, e _ h3, if_neg h1, if_neg h2, if_neg h3]
          decide
theorem mt_is (c : UInt8) (r : List UInt8) : ∀ x, x ∈ signsB.map Prod.fst ++ opsB ++ punB → hasPrefix (c :: r) x.data.toList = mtF c (nextF r) (hasPrefix r [61, 46]) x.data.toList := by
  obtain ⟨n1, n2, n3⟩ := next_is r
  intro x hx
  simp only [signsB, opsB, punB, List.map_cons, List.map_nil, List.cons_append, List.nil_append, List.mem_cons, List.not_mem_nil, or_false] at hx
  rcases hx with rfl | rfl | rfl | rfl | rfl | rfl | rfl | rfl | rfl | rfl | rfl | rfl | rfl | rfl | rfl | rfl | rfl | rfl | rfl | rfl | rfl | rfl | rfl | rfl | rfl | rfl | rfl | rfl | rfl | rfl | rfl | rfl | rfl | rfl | rfl | rfl | rfl | rfl | rfl | rfl | rfl | rfl
  all_goals
    rw [has_cons]
    simp [mtF, has_nil, n1, n2, n3]
def signOf (l : List UInt8) : Option (ByteArray × Int) := if (sgChosen l).1.size = 0 then none else some (sgChosen l)
theorem sign_long (c : UInt8) (r : List UInt8) : signL (c :: r) = signOf (c :: r) := by
  have hm := mt_is c r
  have hf := sign_fin ⟨c.toNat, c.toNat_lt⟩ (nextF r) (hasPrefix r [61, 46])
  simp only [UInt8.ofNat_toNat] at hf
  generalize mtF c (nextF r) (hasPrefix r [61, 46]) = N at hm hf
  have e1 : signL (c :: r) = signM N := find_same _ fun x hx => hm _ (List.mem_append_left _ (List.mem_append_left _ (List.mem_map_of_mem hx)))
  have e2 : opsB.foldl (longM (hasPrefix (c :: r))) ⟨#[]⟩ = opsB.foldl (longM N) ⟨#[]⟩ := fold_same _ _ fun x hx => hm _ (List.mem_append_left _ (List.mem_append_right _ hx))
  have e3 : punB.foldl (longM (hasPrefix (c :: r))) ⟨#[]⟩ = punB.foldl (longM N) ⟨#[]⟩ := fold_same _ _ fun x hx => hm _ (List.mem_append_right _ hx)
  have e4 : sgChosen (c :: r) = chosenM N := by unfold sgChosen chosenM; rw [e2, e3]
  unfold signOf
  rw [e1, e4, hf]
  rfl
def lexF (l : List UInt8) (line : Int) (acc : List (Tk × Int)) : Res := lexA (l.length + 1) l line acc
theorem lexF_nil (line : Int) (acc : List (Tk × Int)) : lexF [] line acc = .good acc := by unfold lexF lexA; rfl
theorem lexF_nl (r : List UInt8) (line : Int) (acc : List (Tk × Int)) : lexF (10 :: r) line acc = lexF r (line + 1) acc := by
  unfold lexF
  conv => lhs; unfold lexA
  rw [if_pos rfl]
  exact fuel _ _ _ _ _ (by simp) (by omega)
theorem lexF_blank {c : UInt8} (r : List UInt8) (line : Int) (acc : List (Tk × Int)) (h10 : c ≠ 10) (h : c = 9 ∨ c = 13 ∨ c = 32) : lexF (c :: r) line acc = lexF r line acc := by
  unfold lexF
  conv => lhs; unfold lexA
  rw [if_neg h10, if_pos h]
  exact fuel _ _ _ _ _ (by simp) (by omega)
theorem drop_index : ∀ (l : List UInt8), l.dropWhile (fun c => c != 10) = if indexByte l 10 < 0 then [] else l.drop (indexByte l 10).toNat
  | [] => by simp [indexByte]
  | c :: l => by
    have ih := drop_index l
    obtain ⟨i1, i2, i3, -⟩ := index_le l 10
    rw [List.dropWhile_cons]
    by_cases g : c = 10
    · have e : indexByte (c :: l) 10 = 0 := by unfold indexByte; rw [if_pos (by simpa using g)]
      rw [e, g]
      rfl
    · have e1 : (c != 10) = true := by simpa using g
      rw [if_pos e1, ih]
      by_cases g2 : indexByte l 10 < 0
      · have e : indexByte (c :: l) 10 = -1 := by unfold indexByte; rw [if_neg (by simpa using g), if_pos (by rw [i3 g2]; rfl)]
        rw [if_pos g2, e, if_pos (by decide)]
      · have e : indexByte (c :: l) 10 = indexByte l 10 + 1 := by
          conv => lhs; unfold indexByte
          rw [if_neg (by simpa using g), if_neg (by simp; omega)]
        rw [if_neg g2, e, if_neg (by omega)]
        have e2 : (indexByte l 10 + 1).toNat = (indexByte l 10).toNat + 1 := by omega
        rw [e2, List.drop_succ_cons]
theorem lexF_rem {c : UInt8} {r : List UInt8} (line : Int) (acc : List (Tk × Int)) (h : hasPrefix (c :: r) [45, 45] = true) : lexF (c :: r) line acc = lexF ((c :: r).dropWhile fun c => c != 10) line acc := by
  have hc : c = 45 := by
    rw [has_cons] at h
    simp only [Bool.and_eq_true, beq_iff_eq] at h
    exact h.1.symm
  have h10 : c ≠ 10 := by rw [hc]; decide
  have hb : ¬ (c = 9 ∨ c = 13 ∨ c = 32) := by rw [hc]; decide
  rw [drop_index]
  unfold lexF
  conv => lhs; unfold lexA
  rw [if_neg h10, if_neg hb, if_pos h]
  have hip := index_pos (r := r) h10
  split
  · unfold lexA
    rfl
  · refine fuel _ _ _ _ _ ?_ (by omega)
    rw [List.length_drop, List.length_cons]
    omega
theorem lexF_tok {c : UInt8} {r : List UInt8} (line : Int) (acc : List (Tk × Int)) (h10 : c ≠ 10) (hb : ¬ (c = 9 ∨ c = 13 ∨ c = 32)) (h : hasPrefix (c :: r) [45, 45] = false) :
    lexF (c :: r) line acc = if (readL (c :: r)).2 = 0 then (if acc.length = 4096 then .bad 2 line else lexF ((c :: r).drop (readL (c :: r)).1.t.length) line (acc ++ [((readL (c :: r)).1, line)])) else .bad (readL (c :: r)).2 line := by
  unfold lexF
  conv => lhs; unfold lexA
  rw [if_neg h10, if_neg hb, if_neg (by rw [h]; decide)]
  split
  · rename_i hr
    have hle := read_len hr
    split
    · rfl
    · exact fuel _ _ _ _ _ (by rw [List.length_drop, List.length_cons]; omega) (by omega)
  · rfl
def Starts (l : List UInt8) : Prop := ∀ c r, l = c :: r → c ≠ 10 ∧ ¬ (c = 9 ∨ c = 13 ∨ c = 32) ∧ hasPrefix l [45, 45] = false
def oneL (c : UInt8) (r : List UInt8) : Tk × Int :=
  if smB c = true ∨ cpB c = true then (if 16 < (runL (c :: r)).length then (.zero, 9) else (⟨refK (runL (c :: r)) c, runL (c :: r), false, 0⟩, 0))
  else if dgB c = true then numT (runL (c :: r))
  else if c = 35 then (if runL (trimPrefix r [45]) = [] then (.zero, 3) else numT (markedL (c :: r)))
  else if (sgChosen (c :: r)).1.size = 0 then (.zero, 3) else (⟨(sgChosen (c :: r)).2, (sgChosen (c :: r)).1.data.toList, false, 0⟩, 0)
theorem numT_bad {t : List UInt8} (h : (parseL (trimPrefix t [35])).2.2 = 3) : numT t = (.zero, 3) := by
  unfold numT
  rw [h, if_neg (by decide)]
theorem no_sign {c : UInt8} (r : List UInt8) (h : inRun c = true ∨ c = 35) : signL (c :: r) = none := by
  have h0 : ∀ x, x ∈ signsB → ∃ d q, x.1.data.toList = d :: q ∧ inRun d = false ∧ d ≠ 35 := by
    intro x hx
    simp only [signsB, List.mem_cons, List.not_mem_nil, or_false] at hx
    rcases hx with rfl | rfl | rfl | rfl | rfl | rfl | rfl | rfl | rfl | rfl | rfl | rfl | rfl | rfl | rfl | rfl | rfl | rfl | rfl | rfl | rfl
    all_goals exact ⟨_, _, rfl, by decide, by decide⟩
  unfold signL
  rw [List.find?_eq_none]
  intro x hx g
  obtain ⟨d, q, e, h1, h2⟩ := h0 x hx
  rw [e, has_cons] at g
  simp only [Bool.and_eq_true, beq_iff_eq] at g
  obtain rfl := g.1
  rcases h with h | h
  · rw [h1] at h; cases h
  · exact h2 h
theorem smB_iff (c : UInt8) : smB c = true ↔ Sm c := by unfold smB Sm; exact decide_eq_true_iff
theorem cpB_iff (c : UInt8) : cpB c = true ↔ Cp c := by unfold cpB Cp; exact decide_eq_true_iff
theorem dgB_iff (c : UInt8) : dgB c = true ↔ Dg c := by unfold dgB Dg; exact decide_eq_true_iff
theorem mem_all : ∀ n : Fin 256, decide (UInt8.ofNat n.val ∈ smallsB.data.toList) = smB (UInt8.ofNat n.val) ∧ decide (UInt8.ofNat n.val ∈ capsB.data.toList) = cpB (UInt8.ofNat n.val) ∧ decide (UInt8.ofNat n.val ∈ digsB.data.toList) = dgB (UInt8.ofNat n.val) := by decide +kernel
theorem mem_of (c : UInt8) : decide (c ∈ smallsB.data.toList) = smB c ∧ decide (c ∈ capsB.data.toList) = cpB c ∧ decide (c ∈ digsB.data.toList) = dgB c := by
  have h := mem_all ⟨c.toNat, c.toNat_lt⟩
  simpa using h
theorem kputs_at (f : List UInt8 → Option Int) (l : List UInt8) (u : Int) (c : UInt8) : kputs f l u [c] = if c ∈ l then some u else f [c] := by
  unfold kputs
  by_cases h : c ∈ l
  · rw [if_pos ⟨c, h, rfl⟩, if_pos h]
  · rw [if_neg h, if_neg]
    rintro ⟨d, hd, e⟩
    simp only [List.cons.injEq, and_true] at e
    rw [e] at h
    exact h hd
theorem kputs_far (f : List UInt8 → Option Int) (l : List UInt8) (u : Int) (c d : UInt8) (r : List UInt8) : kputs f l u (c :: d :: r) = f (c :: d :: r) := by
  unfold kputs
  rw [if_neg]
  rintro ⟨x, hx, e⟩
  simp at e
def baseK (c : UInt8) : Int := if dgB c = true then 3 else if cpB c = true then 2 else if smB c = true then 1 else 0
theorem kind_one (c : UInt8) : (kindF [c]).getD 0 = baseK c ∧ (kindF [c] = none → baseK c = 0) := by
  obtain ⟨h1, h2, h3⟩ := mem_of c
  unfold kindF
  have e1 : c ∈ smallsB.data.toList ↔ smB c = true := by rw [← h1]; exact decide_eq_true_iff.symm
  have e2 : c ∈ capsB.data.toList ↔ cpB c = true := by rw [← h2]; exact decide_eq_true_iff.symm
  have e3 : c ∈ digsB.data.toList ↔ dgB c = true := by rw [← h3]; exact decide_eq_true_iff.symm
  simp only [kputs_at, word_one, e1, e2, e3]
  unfold baseK
  cases dgB c <;> cases cpB c <;> cases smB c <;> simp
theorem kindOf_eq {c : UInt8} {r : List UInt8} (h : inRun c = true) : kindOf (c :: r) = (wordF (runL (c :: r))).getD (baseK c) := by
  obtain ⟨k1, k2⟩ := kind_one c
  unfold kindOf
  rw [run_cons, if_pos h]
  have e1 : List.take 1 (c :: r) = [c] := rfl
  rw [e1]
  cases hr : runL r with
  | nil =>
    rw [word_one]
    cases hk : kindF [c] with
    | none => rw [hk] at k1; simpa using k1
    | some k => rw [hk] at k1; simpa using k1
  | cons d q =>
    have e : kindF (c :: d :: q) = wordF (c :: d :: q) := by
      unfold kindF
      rw [kputs_far, kputs_far, kputs_far]
    rw [e]
    cases hw : wordF (c :: d :: q) with
    | none => simpa using k1
    | some k => simp
theorem word_small {c : UInt8} {t : List UInt8} (h : smB c = false) : wordF (c :: t) = none := by
  cases hw : wordF (c :: t) with
  | none => rfl
  | some k =>
    obtain ⟨-, d, q, e, hs⟩ := word_some hw
    simp only [List.cons.injEq] at e
    obtain ⟨rfl, rfl⟩ := e
    rw [(smB_iff c).2 hs] at h
    cases h
theorem has35_iff (c : UInt8) (r : List UInt8) : hasPrefix (c :: r) [35] = true ↔ c = 35 := by
  rw [has_cons, has_nil]
  simp only [Bool.and_true, beq_iff_eq]
  exact ⟨Eq.symm, Eq.symm⟩
theorem marked_none {r : List UInt8} (h : runL (trimPrefix r [45]) = []) : numT (markedL (35 :: r)) = (.zero, 3) := by
  rcases minus_split r with ⟨q, rfl⟩ | g
  · have e : trimPrefix (45 :: q) [45] = q := by simp [trimPrefix, hasPrefix]
    rw [e] at h
    rw [marked_minus, h]
    exact numT_bad (by decide)
  · have e : trimPrefix r [45] = r := by simp [trimPrefix, g]
    rw [e] at h
    rw [marked_plain g, h]
    exact numT_bad (by decide)
theorem one_read (c : UInt8) (r : List UInt8) : readL (c :: r) = oneL c r := by
  have hin := inRun_eq c
  unfold oneL
  by_cases h1 : smB c = true ∨ cpB c = true
  · have hi : inRun c = true := by rw [hin]; rcases h1 with h | h <;> simp [h]
    have h35 : ¬ c = 35 := by
      intro e
      subst e
      rcases h1 with h | h <;> revert h <;> decide
    have hd : dgB c = false := by
      rw [Bool.eq_false_iff]
      intro hd
      rw [dgB_iff] at hd
      rw [smB_iff, cpB_iff] at h1
      unfold Sm Cp at h1
      unfold Dg at hd
      omega
    rw [if_pos h1]
    have hk := kindOf_eq (r := r) hi
    have hrf : (wordF (runL (c :: r))).getD (baseK c) = refK (runL (c :: r)) c := by
      unfold refK baseK
      rw [hd]
      cases hc : cpB c with
      | true =>
        have := (cpB_iff c).1 hc
        unfold Cp at this
        simp [this]
      | false =>
        have hc' : ¬ (65 ≤ c.toNat ∧ c.toNat ≤ 90) := fun h => by
          rw [(cpB_iff c).2 h] at hc
          cases hc
        rw [hc] at h1
        have hs : smB c = true := h1.resolve_right (by decide)
        simp [hs, hc']
    rw [hrf] at hk
    have hk03 : refK (runL (c :: r)) c ≠ 0 ∧ refK (runL (c :: r)) c ≠ 3 := by
      unfold refK
      cases hw : wordF (runL (c :: r)) with
      | none =>
        simp only [Option.getD_none]
        split <;> decide
      | some k =>
        obtain ⟨h57, -⟩ := word_some hw
        simp only [Option.getD_some]
        omega
    unfold readL
    rw [no_sign r (Or.inl hi)]
    simp only
    rw [if_neg (by rw [has35_iff]; exact h35)]
    unfold readR
    rw [hk, if_neg hk03.1, if_neg hk03.2]
  · rw [if_neg h1]
    simp only [not_or, Bool.not_eq_true] at h1
    by_cases h2 : dgB c = true
    · have hi : inRun c = true := by rw [hin]; simp [h2]
      have h35 : ¬ c = 35 := by
        intro e
        subst e
        revert h2
        decide
      rw [if_pos h2]
      have hk := kindOf_eq (r := r) hi
      have hw : wordF (runL (c :: r)) = none := by rw [run_cons, if_pos hi]; exact word_small h1.1
      have hb : baseK c = 3 := by unfold baseK; rw [h2]; rfl
      rw [hw, hb] at hk
      unfold readL
      rw [no_sign r (Or.inl hi)]
      simp only
      rw [if_neg (by rw [has35_iff]; exact h35)]
      unfold readR
      rw [hk]
      rfl
    · rw [if_neg h2]
      simp only [Bool.not_eq_true] at h2
      by_cases h3 : c = 35
      · rw [if_pos h3]
        subst h3
        unfold readL
        rw [no_sign r (Or.inr rfl)]
        simp only
        rw [if_pos ((has35_iff 35 r).2 rfl)]
        split
        · rename_i g
          exact marked_none g
        · rfl
      · rw [if_neg h3]
        have hs := sign_long c r
        unfold signOf at hs
        unfold readL
        rw [hs]
        by_cases h4 : (sgChosen (c :: r)).1.size = 0
        · rw [if_pos h4, if_pos h4]
          simp only
          rw [if_neg (by rw [has35_iff]; exact h3)]
          have hk : kindOf (c :: r) = 0 := by
            by_cases hi : inRun c = true
            · rw [kindOf_eq hi, run_cons, if_pos hi, word_small h1.1]
              unfold baseK
              rw [h2, h1.1, h1.2]
              rfl
            · refine kindOf_nil ?_
              rw [run_cons, if_neg hi]
          unfold readR
          rw [hk]
          rfl
        · rw [if_neg h4, if_neg h4]
theorem smB_any (c : UInt8) (w : World) : Calls Try.prog 44 #[.int .u8 c.toNat] w fun e w' => e = .returned (.bool (smB c)) ∧ w' = w := by
  by_cases g1 : 97 ≤ c.toNat
  · have f1 : decide ((97 : Int) ≤ (c.toNat : Int)) = true := decide_eq_true (by omega)
    by_cases g2 : c.toNat ≤ 122
    · have f2 : decide ((c.toNat : Int) ≤ (122 : Int)) = true := decide_eq_true (by omega)
      have hb : smB c = true := decide_eq_true (show 97 ≤ c.toNat ∧ c.toNat ≤ 122 from ⟨g1, g2⟩)
      rw [hb]
      clear hb
      go_enter Try.func44, Try.ntmps44
      go_wp2_with fail
      go_ret
      exact ⟨rfl, rfl⟩
    · have f2 : decide ((c.toNat : Int) ≤ (122 : Int)) = false := decide_eq_false (by omega)
      have hb : smB c = false := decide_eq_false (show ¬ (97 ≤ c.toNat ∧ c.toNat ≤ 122) from fun h => g2 h.2)
      rw [hb]
      clear hb
      go_enter Try.func44, Try.ntmps44
      go_wp2_with fail
      go_ret
      exact ⟨rfl, rfl⟩
  · have f1 : decide ((97 : Int) ≤ (c.toNat : Int)) = false := decide_eq_false (by omega)
    have hb : smB c = false := decide_eq_false (show ¬ (97 ≤ c.toNat ∧ c.toNat ≤ 122) from fun h => g1 h.1)
    rw [hb]
    clear hb
    go_enter Try.func44, Try.ntmps44
    go_wp2_with fail
    go_ret
    exact ⟨rfl, rfl⟩
theorem cpB_any (c : UInt8) (w : World) : Calls Try.prog 45 #[.int .u8 c.toNat] w fun e w' => e = .returned (.bool (cpB c)) ∧ w' = w := by
  by_cases g1 : 65 ≤ c.toNat
  · have f1 : decide ((65 : Int) ≤ (c.toNat : Int)) = true := decide_eq_true (by omega)
    by_cases g2 : c.toNat ≤ 90
    · have f2 : decide ((c.toNat : Int) ≤ (90 : Int)) = true := decide_eq_true (by omega)
      have hb : cpB c = true := decide_eq_true (show 65 ≤ c.toNat ∧ c.toNat ≤ 90 from ⟨g1, g2⟩)
      rw [hb]
      clear hb
      go_enter Try.func45, Try.ntmps45
      go_wp2_with fail
      go_ret
      exact ⟨rfl, rfl⟩
    · have f2 : decide ((c.toNat : Int) ≤ (90 : Int)) = false := decide_eq_false (by omega)
      have hb : cpB c = false := decide_eq_false (show ¬ (65 ≤ c.toNat ∧ c.toNat ≤ 90) from fun h => g2 h.2)
      rw [hb]
      clear hb
      go_enter Try.func45, Try.ntmps45
      go_wp2_with fail
      go_ret
      exact ⟨rfl, rfl⟩
  · have f1 : decide ((65 : Int) ≤ (c.toNat : Int)) = false := decide_eq_false (by omega)
    have hb : cpB c = false := decide_eq_false (show ¬ (65 ≤ c.toNat ∧ c.toNat ≤ 90) from fun h => g1 h.1)
    rw [hb]
    clear hb
    go_enter Try.func45, Try.ntmps45
    go_wp2_with fail
    go_ret
    exact ⟨rfl, rfl⟩
theorem dgB_any (c : UInt8) (w : World) : Calls Try.prog 48 #[.int .u8 c.toNat] w fun e w' => e = .returned (.bool (dgB c)) ∧ w' = w := by
  by_cases g1 : 48 ≤ c.toNat
  · have f1 : decide ((48 : Int) ≤ (c.toNat : Int)) = true := decide_eq_true (by omega)
    by_cases g2 : c.toNat ≤ 57
    · have f2 : decide ((c.toNat : Int) ≤ (57 : Int)) = true := decide_eq_true (by omega)
      have hb : dgB c = true := decide_eq_true (show 48 ≤ c.toNat ∧ c.toNat ≤ 57 from ⟨g1, g2⟩)
      rw [hb]
      clear hb
      go_enter Try.func48, Try.ntmps48
      go_wp2_with fail
      go_ret
      exact ⟨rfl, rfl⟩
    · have f2 : decide ((c.toNat : Int) ≤ (57 : Int)) = false := decide_eq_false (by omega)
      have hb : dgB c = false := decide_eq_false (show ¬ (48 ≤ c.toNat ∧ c.toNat ≤ 57) from fun h => g2 h.2)
      rw [hb]
      clear hb
      go_enter Try.func48, Try.ntmps48
      go_wp2_with fail
      go_ret
      exact ⟨rfl, rfl⟩
  · have f1 : decide ((48 : Int) ≤ (c.toNat : Int)) = false := decide_eq_false (by omega)
    have hb : dgB c = false := decide_eq_false (show ¬ (48 ≤ c.toNat ∧ c.toNat ≤ 57) from fun h => g1 h.1)
    rw [hb]
    clear hb
    go_enter Try.func48, Try.ntmps48
    go_wp2_with fail
    go_ret
    exact ⟨rfl, rfl⟩
theorem drop_cons_of {s : ByteArray} {k : Nat} (h : k < s.size) : ∃ c, s.data.toList.drop k = c :: s.data.toList.drop (k + 1) ∧ s[k]'h = c := by
  have h' : k < s.data.toList.length := by rw [← size_eq]; exact h
  exact ⟨s.data.toList[k], List.drop_eq_getElem_cons h', rfl⟩
def RunSaid (n : Nat) (w : World) (e : Ending) (w' : World) : Prop := e = .returned (.int .i64 n) ∧ Below w.heap.size w w'
theorem RunSaid.mk {m n : Nat} {w w' : World} (h : m = n) (hb : Below w.heap.size w w') : RunSaid m w (.returned (.int .i64 n)) w' := by
  subst h
  exact ⟨rfl, hb⟩
theorem run7_any (s : ByteArray) (hs : s.size ≤ 100000) (at0 : Nat) (h0 : at0 ≤ s.size) (w : World) :
    Calls Try.prog 46 #[.string s, .int .i64 at0] w (RunSaid (runL (s.data.toList.drop at0)).length w) := by
  go_enter Try.func46, Try.ntmps46
  go_wp2_with fail
  go_loopw [5] (fun s5 wr => ∃ n : Nat, s5 = .int .i64 n ∧ at0 + n ≤ s.size ∧ Hid ((runL (s.data.toList.drop at0)).length = n + (runL (s.data.toList.drop (at0 + n))).length) ∧ Below w.heap.size w wr) (fun s5 _ => s.size - at0 - (RowKit.intOf s5).toNat)
  case atStart => exact ⟨0, rfl, by omega, Hd (by simp), Below.refl _ _⟩
  case round =>
    obtain ⟨n, rfl, hn, hr, hb⟩ := hrel
    have HB := Hd hb
    clear hb
    have hlt0 : (0 : Int) ≤ (at0 : Int) + (n : Int) := by omega
    by_cases hlt : at0 + n < s.size
    · obtain ⟨c, hd, hsc⟩ := drop_cons_of hlt
      have hR := hr.out
      rw [hd, run_cons, inRun_eq] at hR
      have hlt' : (at0 : Int) + (n : Int) < (s.size : Int) := by omega
      clear hd hr
      have en1 : IntKind.i64.wrap ((n : Int) + 1) = (n : Int) + 1 := by rw [IntKind.wrap_i64]; omega
      have hus : (usB c = true ∧ ((c.toNat : Int) == 95) = true) ∨ (usB c = false ∧ ((c.toNat : Int) == 95) = false) := by
        unfold usB
        by_cases g : c.toNat = 95
        · exact Or.inl ⟨decide_eq_true g, by rw [g]; rfl⟩
        · exact Or.inr ⟨decide_eq_false g, by simp; omega⟩
      have HUS := Hd hus
      clear hus
      cases h1 : smB c with
      | true =>
        have HR := Hd (show (runL (s.data.toList.drop at0)).length = n + 1 + (runL (s.data.toList.drop (at0 + (n + 1)))).length by
          rw [hR, h1]
          rw [show at0 + (n + 1) = at0 + n + 1 by omega]
          simp <;> omega)
        clear hR
        go_wp2_with fail
        rw [hsc]
        refine (smB_any c _).mono ?_
        rintro e w2 ⟨rfl, rfl⟩
        rw [h1]
        go_wp2_with fail
        exact ⟨⟨n + 1, by go_num, by omega, HR, HB.out⟩, by simp [RowKit.intOf]; omega⟩
      | false =>
        cases h2 : cpB c with
        | true =>
          have HR := Hd (show (runL (s.data.toList.drop at0)).length = n + 1 + (runL (s.data.toList.drop (at0 + (n + 1)))).length by
            rw [hR, h1, h2]
            rw [show at0 + (n + 1) = at0 + n + 1 by omega]
            simp <;> omega)
          clear hR
          go_wp2_with fail
          rw [hsc]
          refine (smB_any c _).mono ?_
          rintro e w2 ⟨rfl, rfl⟩
          rw [h1]
          go_wp2_with fail
          rw [hsc]
          refine (cpB_any c _).mono ?_
          rintro e w3 ⟨rfl, rfl⟩
          rw [h2]
          go_wp2_with fail
          exact ⟨⟨n + 1, by go_num, by omega, HR, HB.out⟩, by simp [RowKit.intOf]; omega⟩
        | false =>
          cases h3 : dgB c with
          | true =>
            have HR := Hd (show (runL (s.data.toList.drop at0)).length = n + 1 + (runL (s.data.toList.drop (at0 + (n + 1)))).length by
              rw [hR, h1, h2, h3]
              rw [show at0 + (n + 1) = at0 + n + 1 by omega]
              simp <;> omega)
            clear hR
            go_wp2_with fail
            rw [hsc]
            refine (smB_any c _).mono ?_
            rintro e w2 ⟨rfl, rfl⟩
            rw [h1]
            go_wp2_with fail
            rw [hsc]
            refine (cpB_any c _).mono ?_
            rintro e w3 ⟨rfl, rfl⟩
            rw [h2]
            go_wp2_with fail
            rw [hsc]
            refine (dgB_any c _).mono ?_
            rintro e w4 ⟨rfl, rfl⟩
            rw [h3]
            go_wp2_with fail
            exact ⟨⟨n + 1, by go_num, by omega, HR, HB.out⟩, by simp [RowKit.intOf]; omega⟩
          | false =>
            rcases HUS.out with ⟨h4, h5⟩ | ⟨h4, h5⟩
            · have HR := Hd (show (runL (s.data.toList.drop at0)).length = n + 1 + (runL (s.data.toList.drop (at0 + (n + 1)))).length by
                rw [hR, h1, h2, h3, h4]
                rw [show at0 + (n + 1) = at0 + n + 1 by omega]
                simp <;> omega)
              clear hR
              go_wp2_with fail
              rw [hsc]
              refine (smB_any c _).mono ?_
              rintro e w2 ⟨rfl, rfl⟩
              rw [h1]
              go_wp2_with fail
              rw [hsc]
              refine (cpB_any c _).mono ?_
              rintro e w3 ⟨rfl, rfl⟩
              rw [h2]
              go_wp2_with fail
              rw [hsc]
              refine (dgB_any c _).mono ?_
              rintro e w4 ⟨rfl, rfl⟩
              rw [h3]
              go_wp2_with fail
              exact ⟨⟨n + 1, by go_num, by omega, HR, HB.out⟩, by simp [RowKit.intOf]; omega⟩
            · have HR := Hd (show (runL (s.data.toList.drop at0)).length = n by
                rw [hR, h1, h2, h3, h4]
                simp)
              clear hR
              go_wp2_with fail
              rw [hsc]
              refine (smB_any c _).mono ?_
              rintro e w2 ⟨rfl, rfl⟩
              rw [h1]
              go_wp2_with fail
              rw [hsc]
              refine (cpB_any c _).mono ?_
              rintro e w3 ⟨rfl, rfl⟩
              rw [h2]
              go_wp2_with fail
              rw [hsc]
              refine (dgB_any c _).mono ?_
              rintro e w4 ⟨rfl, rfl⟩
              rw [h3]
              go_wp2_with fail
              go_ret
              exact RunSaid.mk HR.out HB.out
    · have hd : s.data.toList.drop (at0 + n) = [] := List.drop_eq_nil_of_le (by rw [← size_eq]; omega)
      have HR := Hd (show (runL (s.data.toList.drop at0)).length = n by rw [hr.out, hd]; rfl)
      have hlt' : ¬ (at0 : Int) + (n : Int) < (s.size : Int) := by omega
      clear hd hr
      go_wp2_with fail
      go_ret
      exact RunSaid.mk HR.out HB.out
def TextsAt (w : World) (b : Nat) (l : List ByteArray) : Prop := ∀ (j : Nat) (s : ByteArray), l[j]? = some s → w.cell? ⟨b, j, none⟩ = some (.string s)
theorem TextsAt.later {w w' : World} {b : Nat} {l : List ByteArray} (h : TextsAt w b l) (hb : Below w.heap.size w w') : TextsAt w' b l := fun j s hs => later' hb (h j s hs)
def ListSaid (l : List ByteArray) (w : World) (e : Ending) (w' : World) : Prop := ∃ b, e = .returned (.slice (some ⟨b, 0, none⟩) l.length l.length) ∧ TextsAt w' b l ∧ Below w.heap.size w w'
theorem texts_new (w : World) (l : List ByteArray) (t : TypeId) : TextsAt (w.alloc (.cells (l.map Value.string).toArray t)) w.heap.size l := by
  intro j s hs
  have h : (l.map Value.string)[j]? = some (.string s) := by rw [List.getElem?_map, hs]; rfl
  simp [go_sem, hs]
theorem ops_any (w : World) : Calls Try.prog 51 #[] w (ListSaid opsB w) := by
  have ht := Hd (texts_new w opsB 9)
  go_enter Try.func51, Try.ntmps51
  go_wp2_with fail
  go_ret
  exact ⟨w.heap.size, rfl, ht.out, Br.alloc Nr _⟩
theorem puncts_any (w : World) : Calls Try.prog 52 #[] w (ListSaid punB w) := by
  have ht := Hd (texts_new w punB 9)
  go_enter Try.func52, Try.ntmps52
  go_wp2_with fail
  go_ret
  exact ⟨w.heap.size, rfl, ht.out, Br.alloc Nr _⟩
theorem fold_snoc (M : List UInt8 → Bool) (ps : List ByteArray) (k : Nat) (t : ByteArray) (h : ps[k]? = some t) : (ps.take (k + 1)).foldl (longM M) ⟨#[]⟩ = longM M ((ps.take k).foldl (longM M) ⟨#[]⟩) t := by
  obtain ⟨hk, rfl⟩ := List.getElem?_eq_some_iff.1 h
  rw [List.take_succ_eq_append_getElem hk, List.foldl_append]
  rfl
theorem prefix_at (s t : ByteArray) (k : Nat) (hk : k ≤ s.size) : hasPrefix (s.data.toList.drop k) t.data.toList = true ↔ k + t.size ≤ s.size ∧ (s.extract k (k + t.size)).toList = t.toList := by
  have hz := size_eq s
  have ht := size_eq t
  have hx : (s.extract k (k + t.size)).data.toList = (s.data.toList.drop k).take t.size := by simp [ByteArray.data_extract]
  rw [ByteArray.toList_eq, ByteArray.toList_eq, hx]
  unfold hasPrefix
  rw [List.isPrefixOf_iff_prefix, List.prefix_iff_eq_take, ← ht]
  constructor
  · intro h
    refine ⟨?_, h.symm⟩
    have := congrArg List.length h
    rw [List.length_take, List.length_drop] at this
    omega
  · intro h
    exact h.2.symm
theorem ndrewN2 {B : Nat} {w W : World} (h : Below B w W) (n : Nat) : Below B w (W.drewN n) := ⟨h.os, h.tape, h.output, h.size, h.block⟩
def LongSaid (r : ByteArray) (w : World) (e : Ending) (w' : World) : Prop := e = .returned (.string r) ∧ Below w.heap.size w w'
theorem LongSaid.mk {r b : ByteArray} {w w' : World} (h : b = r) (hb : Below w.heap.size w w') : LongSaid r w (.returned (.string b)) w' := by
  subst h
  exact ⟨rfl, hb⟩
theorem longest_any (s : ByteArray) (hs : s.size ≤ 100000) (k : Nat) (hk : k ≤ s.size) (b : Nat) (ps : List ByteArray) (hp : ps.length ≤ 100) (hp3 : ∀ t, t ∈ ps → t.size ≤ 3) (w : World) (hT : TextsAt w b ps) :
    Calls Try.prog 50 #[.string s, .int .i64 k, .slice (some ⟨b, 0, none⟩) ps.length ps.length] w (LongSaid (longL (s.data.toList.drop k) ps) w) := by
  have HT := Hd (Ai hT hp3)
  clear hT hp3
  go_enter Try.func50, Try.ntmps50
  go_wp2_with fail
  go_loopw [7, 8] (fun s7 s8 wr => ∃ i : Nat, i ≤ ps.length ∧ s7 = .string ((ps.take i).foldl (longM (hasPrefix (s.data.toList.drop k))) ⟨#[]⟩) ∧ s8 = .int .i64 i ∧ Below w.heap.size w wr) (fun _ s8 _ => ps.length - (RowKit.intOf s8).toNat)
  case atStart => exact ⟨0, Nat.zero_le _, rfl, rfl, Below.refl _ _⟩
  case round =>
    obtain ⟨i, hi, rfl, rfl, hb⟩ := hrel
    have HB := Hd hb
    clear hb
    by_cases hlt : i < ps.length
    · have hlt' : (i : Int) < (ps.length : Int) := by omega
      obtain ⟨t, ht⟩ : ∃ t, ps[i]? = some t := ⟨_, List.getElem?_eq_getElem hlt⟩
      have hc := later' HB.out (HT.out.1 i t ht)
      have htz := HT.out.2 t (List.mem_of_getElem? ht)
      have hfs := fold_snoc (hasPrefix (s.data.toList.drop k)) ps i t ht
      have hpx := prefix_at s t k hk
      generalize (ps.take i).foldl (longM (hasPrefix (s.data.toList.drop k))) ⟨#[]⟩ = best at *
      have HFS := Hd (Ai hfs hpx)
      clear hfs ht hpx
      have b0 : (0 : Int) ≤ (i : Int) := by omega
      have ei : IntKind.i64.wrap ((i : Int) + 1) = (i : Int) + 1 := by rw [IntKind.wrap_i64]; omega
      have es : IntKind.i64.wrap ((k : Int) + (t.size : Int)) = (k : Int) + (t.size : Int) := by rw [IntKind.wrap_i64]; omega
      have es0 : (0 : Int) ≤ (k : Int) + (t.size : Int) := by omega
      have es1 : (k : Int) ≤ (k : Int) + (t.size : Int) := by omega
      have es2 : ((k : Int) + (t.size : Int)).toNat = k + t.size := by omega
      by_cases h1 : k + t.size ≤ s.size
      · have f1 : decide ((k : Int) + (t.size : Int) ≤ (s.size : Int)) = true := decide_eq_true (by omega)
        have f1' : (k : Int) + (t.size : Int) ≤ (s.size : Int) := by omega
        by_cases h2 : (s.extract k (k + t.size)).toList = t.toList
        · have f2 : ((s.extract k (k + t.size)).toList == t.toList) = true := by simpa using h2
          by_cases h3 : best.size < t.size
          · have f3 : decide (best.size < t.size) = true := decide_eq_true h3
            have HN := Hd (show longM (hasPrefix (s.data.toList.drop k)) best t = t by
              unfold longM
              rw [if_pos ⟨HFS.out.2.2 ⟨h1, h2⟩, h3⟩])
            clear h1 h2 h3
            go_upto_region 6 with fail
            go_quiet (fail)
            have hbd := ndrewN2 HB.out nq
            go_wp2_with fail
            exact ⟨⟨i + 1, by omega, by rw [HFS.out.1, HN.out], by go_num, hbd⟩, by simp [RowKit.intOf]; omega⟩
          · have f3 : decide (best.size < t.size) = false := decide_eq_false h3
            have HN := Hd (show longM (hasPrefix (s.data.toList.drop k)) best t = best by
              unfold longM
              rw [if_neg fun h => h3 h.2])
            clear h1 h2 h3
            go_upto_region 6 with fail
            go_quiet (fail)
            have hbd := ndrewN2 HB.out nq
            go_wp2_with fail
            exact ⟨⟨i + 1, by omega, by rw [HFS.out.1, HN.out], by go_num, hbd⟩, by simp [RowKit.intOf]; omega⟩
        · have f2 : ((s.extract k (k + t.size)).toList == t.toList) = false := by simpa using h2
          have HN := Hd (show longM (hasPrefix (s.data.toList.drop k)) best t = best by
            unfold longM
            rw [if_neg fun h => h2 (HFS.out.2.1 h.1).2])
          clear h1 h2
          go_upto_region 6 with fail
          go_quiet (fail)
          have hbd := ndrewN2 HB.out nq
          go_wp2_with fail
          exact ⟨⟨i + 1, by omega, by rw [HFS.out.1, HN.out], by go_num, hbd⟩, by simp [RowKit.intOf]; omega⟩
      · have f1 : decide ((k : Int) + (t.size : Int) ≤ (s.size : Int)) = false := decide_eq_false (by omega)
        have HN := Hd (show longM (hasPrefix (s.data.toList.drop k)) best t = best by
          unfold longM
          rw [if_neg fun h => h1 (HFS.out.2.1 h.1).1])
        clear h1
        go_upto_region 6 with fail
        go_quiet (fail)
        have hbd := ndrewN2 HB.out nq
        go_wp2_with fail
        exact ⟨⟨i + 1, by omega, by rw [HFS.out.1, HN.out], by go_num, hbd⟩, by simp [RowKit.intOf]; omega⟩
    · obtain rfl : i = ps.length := by omega
      have HL := Hd (show (ps.take ps.length).foldl (longM (hasPrefix (s.data.toList.drop k))) ⟨#[]⟩ = longL (s.data.toList.drop k) ps by rw [List.take_length]; rfl)
      generalize (ps.take ps.length).foldl (longM (hasPrefix (s.data.toList.drop k))) ⟨#[]⟩ = best at *
      go_wp2_with fail
      go_ret
      exact LongSaid.mk HL.out HB.out
end Go.Proofs.Ytdjcdecbmeickaa
namespace Go.Proofs.Ytdjcdecbmeickaa
set_option maxHeartbeats 64000000
set_option maxRecDepth 100000
open Go.RowKit
def digV (c : Nat) : Nat := if 48 ≤ c ∧ c ≤ 57 then c - 48 else if 97 ≤ c ∧ c ≤ 102 then c - 87 else 99
theorem digit_any (c : Nat) (w : World) (hc : c < 256) :
    Calls Try.prog 70 #[.int .u8 c] w fun e w' => e = .returned (.int .u64 (digV c : Nat)) ∧ w' = w := by
  have h : (48 ≤ c ∧ c ≤ 57) ∨ (97 ≤ c ∧ c ≤ 102) ∨ c < 48 ∨ (57 < c ∧ c < 97) ∨ 102 < c := by omega
  rcases h with h | h | h | h | h
  · have e : (digV c : Int) = (c : Int) - 48 := by unfold digV; rw [if_pos h]; omega
    rw [e]; clear e
    obtain ⟨h1, h2⟩ := h
    go_enter Try.func70, Try.ntmps70
    go_wp2_with fail
    go_ret
    exact ⟨rfl, rfl⟩
  · have e : (digV c : Int) = (c : Int) - 97 + 10 := by unfold digV; rw [if_neg (by omega), if_pos h]; omega
    rw [e]; clear e
    obtain ⟨h1, h2⟩ := h
    go_enter Try.func70, Try.ntmps70
    go_wp2_with fail
    go_ret
    exact ⟨rfl, rfl⟩
  · have e : (digV c : Int) = 99 := by unfold digV; rw [if_neg (by omega), if_neg (by omega)]; rfl
    rw [e]; clear e
    go_enter Try.func70, Try.ntmps70
    go_wp2_with fail
    go_ret
    exact ⟨rfl, rfl⟩
  · have e : (digV c : Int) = 99 := by unfold digV; rw [if_neg (by omega), if_neg (by omega)]; rfl
    rw [e]; clear e
    obtain ⟨h1, h2⟩ := h
    go_enter Try.func70, Try.ntmps70
    go_wp2_with fail
    go_ret
    exact ⟨rfl, rfl⟩
  · have e : (digV c : Int) = 99 := by unfold digV; rw [if_neg (by omega), if_neg (by omega)]; rfl
    rw [e]; clear e
    go_enter Try.func70, Try.ntmps70
    go_wp2_with fail
    go_ret
    exact ⟨rfl, rfl⟩
def digs (b n : Nat) : List UInt8 :=
  if _h : n < b ∨ b < 2 then [hdB (n % b)] else digs b (n / b) ++ [hdB (n % b)]
termination_by n
decreasing_by exact Nat.div_lt_self (by omega) (by omega)
def digsAhead (b n : Nat) : List UInt8 := if n = 0 then [] else digs b n
theorem digs_first (b n : Nat) (hb : 2 ≤ b) : digs b n = digsAhead b (n / b) ++ [hdB (n % b)] := by
  rw [digs]
  unfold digsAhead
  by_cases h : n < b
  · rw [dif_pos (Or.inl h), if_pos (Nat.div_eq_of_lt h)]; rfl
  · have : n / b ≠ 0 := by
      intro e
      have := Nat.div_eq_zero_iff.1 e
      omega
    rw [dif_neg (by omega), if_neg this]
def DgI (b n m : Nat) (s : ByteArray) : Prop := (m < 18446744073709551616 ∧ m * 2 ^ s.size ≤ n) ∧ digs b n = digsAhead b m ++ s.data.toList
theorem DgI.first (b n : Nat) (hb : 2 ≤ b) (hn : n < 18446744073709551616) : DgI b n (n / b) ⟨#[hdB (n % b)]⟩ := by
  refine ⟨⟨Nat.lt_of_le_of_lt (Nat.div_le_self _ _) hn, ?_⟩, digs_first b n hb⟩
  show n / b * 2 ^ 1 ≤ n
  have h1 := Nat.div_mul_le_self n b
  have h2 : n / b * 2 ≤ n / b * b := Nat.mul_le_mul_left _ hb
  omega
end Go.Proofs.Ytdjcdecbmeickaa
namespace Go.Proofs.Ytdjcdecbmeickaa
set_option maxHeartbeats 64000000
set_option maxRecDepth 100000
open Go.RowKit
open Go.Lib (NumEnd parseUintM parseUintB parseIntB decDigits itoa)
theorem parse_over (M : Nat) (hM : M ≤ 18446744073709551615) (d : List UInt8) (h : ∀ c ∈ d, isDig c = true) : parseUintM M 0 d = .ok (decN 0 d) ∨ (parseUintM M 0 d = .range ∧ M < decN 0 d) := by
  rcases Nat.lt_or_ge M (decN 0 d) with h1 | h1
  · have hpl := parse_plain M d 0 h
    cases hp : parseUintM M 0 d with
    | range => exact Or.inr ⟨rfl, h1⟩
    | ok u => exact Or.inl (by rw [(parse_ok M d 0 u hp).2])
    | _ => rw [hp] at hpl; exact hpl.elim
  · exact Or.inl (parse_digits M hM d 0 h h1)
theorem mag_minus (d : List UInt8) (h : Mag d) : intF (45 :: d) = true ∧ Lib.hasPrefix (45 :: d) [48, 102] = false ∧ parseIntB 64 (45 :: d) = (if decN 0 d ≤ 9223372036854775808 then .ok (-(decN 0 d : Int)) else .range) := by
  refine ⟨(intF_cases _).2 (Or.inr (Or.inl ⟨d, rfl, h⟩)), rfl, ?_⟩
  rw [pi_minus d h]
  rcases parse_over 18446744073709551615 Nr d h.2.2 with e | ⟨e, hlt⟩
  · rw [e]
    simp only [Lib.signedC]
    by_cases hc : decN 0 d ≤ 9223372036854775808
    · rw [if_pos hc, if_neg (by omega)]
    · rw [if_neg hc, if_pos (by omega)]
  · rw [e, if_neg (by omega)]; rfl
theorem mag_plain (d : List UInt8) (h : Mag d) : intF d = true ∧ Lib.hasPrefix d [48, 102] = false ∧ parseIntB 64 d = (if decN 0 d < 9223372036854775808 then .ok (decN 0 d : Int) else .range) := by
  have hpre : Lib.hasPrefix d [48, 102] = false := by
    cases d with
    | nil => exact absurd rfl h.1
    | cons c r =>
      have hc : c ≠ 48 := fun e => h.2.1 (by rw [e]; rfl)
      have h48 : (48 == c) = false := by simpa using Ne.symm hc
      show ((48 == c) && List.isPrefixOf [102] r) = false
      rw [h48]; rfl
  refine ⟨(intF_cases _).2 (Or.inr (Or.inr h)), hpre, ?_⟩
  rw [pi_plain d h]
  rcases parse_over 18446744073709551615 Nr d h.2.2 with e | ⟨e, hlt⟩
  · rw [e]
    simp only [Lib.signlessC]
    by_cases hc : decN 0 d < 9223372036854775808
    · rw [if_pos hc, if_neg (by omega)]
    · rw [if_neg hc, if_pos (by omega)]
  · rw [e, if_neg (by omega)]; rfl
end Go.Proofs.Ytdjcdecbmeickaa
namespace Go.Proofs.Ytdjcdecbmeickaa
set_option maxHeartbeats 64000000
set_option maxRecDepth 100000
open Go.RowKit
def PadI (t s : ByteArray) : Prop := ∃ j : Nat, s = ⟨(List.replicate j 48 ++ t.data.toList).toArray⟩ ∧ s.size = j + t.size ∧ s.size ≤ 16
theorem PadI.first (t : ByteArray) (h : t.size ≤ 16) : PadI t t := ⟨0, by simp, by simp, h⟩
theorem digV_hex (c : UInt8) (h : isHex c = true) : digV c.toNat = hexV c ∧ hexV c < 16 := by
  have h2 := digit_hex c h
  simp only [isHex, Bool.or_eq_true, decide_eq_true_eq] at h
  refine ⟨?_, h2.1⟩
  unfold digV hexV
  rcases h with h | h
  · rw [if_pos h, if_pos h.2]
  · rw [if_neg (by omega), if_pos h, if_neg (by omega)]
theorem digV_nohex (c : UInt8) (h : ¬ isHex c = true) : digV c.toNat = 99 := by
  simp only [isHex, Bool.or_eq_true, decide_eq_true_eq, not_or] at h
  unfold digV
  rw [if_neg h.1, if_neg h.2]
theorem bits_good (s : ByteArray) (hs : s.size = 16) (hall : ∀ c ∈ s.data.toList, isHex c = true) (w : World) :
    Calls Try.prog 69 #[.string s] w fun e w' => e = .returned (.tuple #[.agg #[.bool true, .int .u64 (hexN 0 s.data.toList : Nat)], .int .i64 0]) ∧ Below w.heap.size w w' := by
  have hB := fun k hk W => letter_at s k hk W
  have hLn := Lib.size_eq s
  obtain ⟨bs, hL⟩ : ∃ bs, bs = s.data.toList := ⟨_, rfl⟩
  rw [← hL] at hB hall hLn ⊢
  clear hL
  have hs' : (s.size : Int) = 16 := by omega
  replace hB := Hd hB
  replace hall := Hd hall
  go_enter Try.func69, Try.ntmps69
  go_wp2_with fail
  have hal : Below w.heap.size w (w.alloc (.cells #[.bool false, .int .u64 0] 30)) := Br.alloc Nr _
  have c0 : (w.alloc (.cells #[.bool false, .int .u64 0] 30)).cell? ⟨w.heap.size, 0, none⟩ = some (.bool false) := by simp
  have c1 : (w.alloc (.cells #[.bool false, .int .u64 0] 30)).cell? ⟨w.heap.size, 1, none⟩ = some (.int .u64 0) := by simp
  have z0 : (w.alloc (.cells #[.bool false, .int .u64 0] 30)).frozen? ⟨w.heap.size, 0, none⟩ = false := by simp
  have z1 : (w.alloc (.cells #[.bool false, .int .u64 0] 30)).frozen? ⟨w.heap.size, 1, none⟩ = false := by simp
  generalize (w.alloc (.cells #[.bool false, .int .u64 0] 30)) = w0 at *
  go_loop [4, 5] (fun vn vi => ∃ (k acc : Nat) (a : Int), vn = .int .u64 a ∧ vi = .int .i64 k ∧ k ≤ 16 ∧ Hid (a = (acc : Int) ∧ acc < 16 ^ k ∧ hexN 0 bs = hexN acc (bs.drop k)))
    (fun _ vi => 16 - (intOf vi).toNat)
  case atStart => exact ⟨0, 0, 0, rfl, rfl, by omega, rfl, by decide, rfl⟩
  case round =>
    obtain ⟨k, acc, a, rfl, rfl, hk, hh⟩ := hrel
    obtain ⟨ha, hacc, hdec⟩ := hh.out
    clear hh
    by_cases hkn : k < 16
    · have hp := pow16 (show k ≤ 15 by omega)
      have hps : 16 ^ (k + 1) = 16 ^ k * 16 := Nat.pow_succ 16 k
      have a0 : 0 ≤ a := by omega
      have a1 : a < 1152921504606846976 := by omega
      have hc := hB.out k (by omega)
      have hdrop : bs.drop k = bs[k]'(by omega) :: bs.drop (k + 1) := List.drop_eq_getElem_cons (by omega)
      have hget : bs.getD k 0 = bs[k]'(by omega) := by simp [List.getD, List.getElem?_eq_getElem (show k < bs.length by omega)]
      have hx : isHex (bs[k]'(by omega)) = true := hall.out _ (List.getElem_mem _)
      rw [hdrop] at hdec
      rw [hget] at hc
      generalize bs[k]'(by omega) = c at hc hdec hx
      obtain ⟨hv, hv16⟩ := digV_hex c hx
      have hD := Hd (fun W => digit_any c.toNat W c.toNat_lt)
      rw [hv] at hD
      have HN : Hid (a * 16 + (hexV c : Int) = ((acc * 16 + hexV c : Nat) : Int) ∧ acc * 16 + hexV c < 16 ^ (k + 1) ∧ hexN 0 bs = hexN (acc * 16 + hexV c) (bs.drop (k + 1))) :=
        Hd ⟨by omega, by omega, hdec⟩
      have hkn' : (k : Int) < 16 := by omega
      have hv' : (0 : Int) ≤ (hexV c : Int) ∧ (hexV c : Int) ≤ 15 := by omega
      clear hacc hdec ha hp hps hv hv16 hx hdrop hget hB hall
      generalize (hexV c : Int) = d at HN hv' hD
      go_wp2_with (go_at_call 70; refine (hD.out _).mono ?_; rintro e w' ⟨rfl, rfl⟩)
      refine ⟨⟨k + 1, acc * 16 + hexV c, a * 16 + d, (by first | rfl | (congr 1; omega)), (by first | rfl | (congr 1; omega)), by omega, HN⟩, by simp [intOf]; omega⟩
    · have hkk : k = 16 := by omega
      subst hkk
      have hF : hexN acc (bs.drop 16) = acc := by rw [List.drop_eq_nil_of_le (by omega)]; rfl
      rw [hF] at hdec
      subst ha
      clear hacc hF hB hall
      replace hdec := Hd hdec
      go_wp2
      refine bodyPost_ret (v := .tuple #[.agg #[.bool true, .int .u64 (acc : Int)], .int .i64 0]) (by simp [results, Try.results69, go_sem, c0, c1]) rfl ⟨by rw [hdec.out], (hal.setCell Nr _).setCell Nr _⟩
theorem bits_bad (s : ByteArray) (hmax : s.size ≤ 100000) (hbad : ¬ (s.size = 16 ∧ ∀ c ∈ s.data.toList, isHex c = true)) (w : World) :
    Calls Try.prog 69 #[.string s] w fun e w' => e = .returned (.tuple #[.agg #[.bool false, .int .u64 0], .int .i64 3]) ∧ Below w.heap.size w w' := by
  have hB := fun k hk W => letter_at s k hk W
  have hLn := Lib.size_eq s
  obtain ⟨bs, hL⟩ : ∃ bs, bs = s.data.toList := ⟨_, rfl⟩
  rw [← hL] at hB hbad hLn
  clear hL
  have hs' : (s.size : Int) ≤ 100000 := by omega
  replace hB := Hd hB
  replace hbad := Hd hbad
  clear hmax
  go_enter Try.func69, Try.ntmps69
  go_wp2_with fail
  have hal : Below w.heap.size w (w.alloc (.cells #[.bool false, .int .u64 0] 30)) := Br.alloc Nr _
  have c0 : (w.alloc (.cells #[.bool false, .int .u64 0] 30)).cell? ⟨w.heap.size, 0, none⟩ = some (.bool false) := by simp
  have c1 : (w.alloc (.cells #[.bool false, .int .u64 0] 30)).cell? ⟨w.heap.size, 1, none⟩ = some (.int .u64 0) := by simp
  have z0 : (w.alloc (.cells #[.bool false, .int .u64 0] 30)).frozen? ⟨w.heap.size, 0, none⟩ = false := by simp
  have z1 : (w.alloc (.cells #[.bool false, .int .u64 0] 30)).frozen? ⟨w.heap.size, 1, none⟩ = false := by simp
  generalize (w.alloc (.cells #[.bool false, .int .u64 0] 30)) = w0 at *
  go_loop [4, 5] (fun vn vi => ∃ (k : Nat) (a : Int), vn = .int .u64 a ∧ vi = .int .i64 k ∧ k ≤ s.size ∧ Hid (∀ j, j < k → isHex (bs.getD j 0) = true))
    (fun _ vi => s.size - (intOf vi).toNat)
  case atStart => exact ⟨0, 0, rfl, rfl, by omega, fun j hj => absurd hj (by omega)⟩
  case round =>
    obtain ⟨k, a, rfl, rfl, hk, hh⟩ := hrel
    by_cases hkn : k < s.size
    · have hc := hB.out k hkn
      have hkn' : (k : Int) < (s.size : Int) := by omega
      by_cases hx : isHex (bs.getD k 0) = true
      · have HN : Hid (∀ j, j < k + 1 → isHex (bs.getD j 0) = true) := fun j hj => by
          by_cases e : j = k
          · rw [e]; exact hx
          · exact hh.out j (by omega)
        generalize bs.getD k 0 = c at hc hx
        obtain ⟨hv, hv16⟩ := digV_hex c hx
        have hD := Hd (fun W => digit_any c.toNat W c.toNat_lt)
        rw [hv] at hD
        have hv' : (0 : Int) ≤ (hexV c : Int) ∧ (hexV c : Int) ≤ 15 := by omega
        clear hx hv hv16 hB hh hbad
        generalize (hexV c : Int) = d at hv' hD
        go_wp2_with (go_at_call 70; refine (hD.out _).mono ?_; rintro e w' ⟨rfl, rfl⟩)
        exact ⟨⟨k + 1, _, rfl, rfl, by omega, HN⟩, by simp [intOf]; omega⟩
      · generalize bs.getD k 0 = c at hc hx
        have hv := digV_nohex c hx
        have hD := Hd (fun W => digit_any c.toNat W c.toNat_lt)
        rw [hv] at hD
        clear hx hv hB hh hbad
        go_wp2_with (go_at_call 70; refine (hD.out _).mono ?_; rintro e w' ⟨rfl, rfl⟩)
        refine bodyPost_ret (v := .tuple #[.agg #[.bool false, .int .u64 0], .int .i64 3]) (by simp [results, Try.results69, go_sem, c0, c1]) rfl ⟨rfl, (hal.setCell Nr _).setCell Nr _⟩
    · have hkk : k = s.size := by omega
      subst hkk
      have hne : ¬ (s.size : Int) = 16 := fun e => hbad.out ⟨by omega, fun c hc => by
        obtain ⟨j, hj, rfl⟩ := List.mem_iff_getElem.1 hc
        have := hh.out j (by omega)
        rwa [List.getD, List.getElem?_eq_getElem hj] at this⟩
      clear hB hh hbad
      go_wp2
      refine bodyPost_ret (v := .tuple #[.agg #[.bool false, .int .u64 0], .int .i64 3]) (by simp [results, Try.results69, go_sem, c0, c1]) rfl ⟨rfl, (hal.setCell Nr _).setCell Nr _⟩
theorem digV_dig (c : UInt8) (h : isDig c = true) : digV c.toNat = c.toNat - 48 ∧ digV c.toNat ≤ 9 := by
  have h := (dig_iff c).1 h
  unfold digV
  rw [if_pos h]
  omega
theorem digV_nodig (c : UInt8) (h : ¬ isDig c = true) : 9 < digV c.toNat := by
  rw [dig_iff] at h
  unfold digV
  rw [if_neg h]
  split <;> omega
theorem refParse_bad_minus (s d : ByteArray) (hmax : (d.size : Int) ≤ 100000) (w : World) (hP : ((s.extract 0 2).toList == [48, 102]) = false) (hx : Hid (0 < (s.size : Int) ∧ ∀ W, (Instr.index 9 (.string s) (.int .i64 0)).run Try.prog W = .ok (.int .u8 45) W)) (hd : Hid (s.extract 1 s.size = d))
    (hbad : Hid (((∃ c ∈ d.data.toList, isDig c = false) ∨ d = ⟨#[]⟩) ∨ (d.data.toList.head? = some 48 ∧ (s.toList == [48]) = false))) :
    Calls Try.prog 63 #[.string s] w fun e w' => e = .returned (.tuple #[.agg #[.bool false, .int .u64 0], .int .i64 3]) ∧ Below w.heap.size w w' := by
  have hB := fun k hk W => letter_at d k hk W
  have hLn := Lib.size_eq d
  replace hB := Hd hB
  replace hLn := Hd hLn
  go_enter Try.func63, Try.ntmps63
  go_upto_region 1 with (fail)
  have hal : Below w.heap.size w (w.alloc (.cells #[.bool false, .int .u64 0] 30)) := Br.alloc Nr _
  have c0 : (w.alloc (.cells #[.bool false, .int .u64 0] 30)).cell? ⟨w.heap.size, 0, none⟩ = some (.bool false) := by simp
  have c1 : (w.alloc (.cells #[.bool false, .int .u64 0] 30)).cell? ⟨w.heap.size, 1, none⟩ = some (.int .u64 0) := by simp
  have z0 : (w.alloc (.cells #[.bool false, .int .u64 0] 30)).frozen? ⟨w.heap.size, 0, none⟩ = false := by simp
  have z1 : (w.alloc (.cells #[.bool false, .int .u64 0] 30)).frozen? ⟨w.heap.size, 1, none⟩ = false := by simp
  generalize (w.alloc (.cells #[.bool false, .int .u64 0] 30)) = w0 at *
  go_cut [16] (fun v wx => v = .bool false ∧ w0 = wx)
  case first =>
    by_cases h2 : 2 ≤ (s.size : Int)
    · go_wp2_with fail
      go_meet
      exact ⟨rfl, rfl⟩
    · go_wp2_with fail
      go_meet
      exact ⟨rfl, rfl⟩
  case rest =>
    obtain ⟨rfl, rfl⟩ := hcut
    clear hP
    go_upto_region 3 with (fail)
    go_cut [4] (fun v wx => v = .bool true ∧ w0 = wx)
    case first =>
      have hx1 := hx.out.1
      have hx2 := hx.out.2
      go_wp2_with fail
      go_meet
      exact ⟨rfl, rfl⟩
    case rest =>
      obtain ⟨rfl, rfl⟩ := hcut
      have hx1 := hx.out.1
      clear hx
      go_wp2_with fail
      clear hx1
      rw [hd.out]
      clear hd
      go_loop [6] (fun vi => ∃ k : Nat, vi = .int .i64 k ∧ k ≤ d.size ∧ Hid (∀ j, j < k → isDig (d.data.toList.getD j 0) = true)) (fun vi => d.size - (intOf vi).toNat)
      case atStart => exact ⟨0, rfl, by omega, fun j hj => absurd hj (by omega)⟩
      case round =>
        obtain ⟨k, rfl, hk, hh⟩ := hrel
        by_cases hkn : k < d.size
        · have hc := hB.out k hkn
          have hkn' : (k : Int) < (d.size : Int) := by omega
          by_cases hq : isDig (d.data.toList.getD k 0) = true
          · have HN : Hid (∀ j, j < k + 1 → isDig (d.data.toList.getD j 0) = true) := fun j hj => by
              by_cases e : j = k
              · rw [e]; exact hq
              · exact hh.out j (by omega)
            generalize d.data.toList.getD k 0 = c at hc hq
            obtain ⟨hv, hv9⟩ := digV_dig c hq
            have hD := Hd (fun W => digit_any c.toNat W c.toNat_lt)
            clear hq hv hB hh hbad hLn
            have hv' : (digV c.toNat : Int) ≤ 9 := by omega
            clear hv9
            generalize (digV c.toNat : Int) = x at hv' hD
            go_wp2_with (go_at_call 70; refine (hD.out _).mono ?_; rintro e w' ⟨rfl, rfl⟩)
            exact ⟨⟨k + 1, rfl, by omega, HN⟩, by simp [intOf]; omega⟩
          · generalize d.data.toList.getD k 0 = c at hc hq
            have hv := digV_nodig c hq
            have hD := Hd (fun W => digit_any c.toNat W c.toNat_lt)
            clear hq hB hh hbad hLn
            have hv' : (9 : Int) < (digV c.toNat : Int) := by omega
            clear hv
            generalize (digV c.toNat : Int) = x at hv' hD
            go_wp2_with (go_at_call 70; refine (hD.out _).mono ?_; rintro e w' ⟨rfl, rfl⟩)
            refine bodyPost_ret (v := .tuple #[.agg #[.bool false, .int .u64 0], .int .i64 3]) (by simp [results, Try.results63, go_sem, c0, c1]) rfl ⟨rfl, (hal.setCell Nr _).setCell Nr _⟩
        · have hkk : k = d.size := by omega
          subst hkk
          rcases hbad.out with (⟨c, hc, hc'⟩ | h) | ⟨h1, h2⟩
          · obtain ⟨j, hj, rfl⟩ := List.mem_iff_getElem.1 hc
            have hl := hLn.out
            have := hh.out j (by omega)
            rw [List.getD, List.getElem?_eq_getElem hj, Option.getD_some, hc'] at this
            cases this
          · clear hB hh hbad hLn
            subst h
            go_wp2
            refine bodyPost_ret (v := .tuple #[.agg #[.bool false, .int .u64 0], .int .i64 3]) (by simp [results, Try.results63, go_sem, c0, c1]) rfl ⟨rfl, (hal.setCell Nr _).setCell Nr _⟩
          · have hl := hLn.out
            have hpos : 0 < d.size := by
              cases hq : d.data.toList with
              | nil => rw [hq] at h1; cases h1
              | cons a r => rw [hq] at hl; simp at hl; omega
            have hx0 := hB.out 0 hpos
            have e48 : d.data.toList.getD 0 0 = 48 := by rw [List.head?_eq_getElem?] at h1; rw [List.getD, h1]; rfl
            rw [e48] at hx0
            have hx0' : ∀ W, (Instr.index 9 (.string d) (.int .i64 0)).run Try.prog W = .ok (.int .u8 48) W := hx0
            have hemp : d.toList.isEmpty = false := by
              rw [← decide_eq_emptyBytes]
              exact decide_eq_false (fun e => by rw [e] at hpos; exact absurd hpos (by decide))
            clear hB hh hbad hLn hl h1 hpos hx0 e48
            go_wp2
            refine bodyPost_ret (v := .tuple #[.agg #[.bool false, .int .u64 0], .int .i64 3]) (by simp [results, Try.results63, go_sem, c0, c1]) rfl ⟨rfl, (hal.setCell Nr _).setCell Nr _⟩
theorem refParse_bad_plain (d : ByteArray) (hmax : (d.size : Int) ≤ 100000) (w : World) (hP : ((d.extract 0 2).toList == [48, 102]) = false) (hx : Hid (¬ 0 < (d.size : Int) ∨ (0 < (d.size : Int) ∧ ∃ c : Int, (∀ W, (Instr.index 9 (.string d) (.int .i64 0)).run Try.prog W = .ok (.int .u8 c) W) ∧ (c == 45) = false)))
    (hbad : Hid (((∃ c ∈ d.data.toList, isDig c = false) ∨ d = ⟨#[]⟩) ∨ (d.data.toList.head? = some 48 ∧ (d.toList == [48]) = false))) :
    Calls Try.prog 63 #[.string d] w fun e w' => e = .returned (.tuple #[.agg #[.bool false, .int .u64 0], .int .i64 3]) ∧ Below w.heap.size w w' := by
  have hB := fun k hk W => letter_at d k hk W
  have hLn := Lib.size_eq d
  replace hB := Hd hB
  replace hLn := Hd hLn
  go_enter Try.func63, Try.ntmps63
  go_upto_region 1 with (fail)
  have hal : Below w.heap.size w (w.alloc (.cells #[.bool false, .int .u64 0] 30)) := Br.alloc Nr _
  have c0 : (w.alloc (.cells #[.bool false, .int .u64 0] 30)).cell? ⟨w.heap.size, 0, none⟩ = some (.bool false) := by simp
  have c1 : (w.alloc (.cells #[.bool false, .int .u64 0] 30)).cell? ⟨w.heap.size, 1, none⟩ = some (.int .u64 0) := by simp
  have z0 : (w.alloc (.cells #[.bool false, .int .u64 0] 30)).frozen? ⟨w.heap.size, 0, none⟩ = false := by simp
  have z1 : (w.alloc (.cells #[.bool false, .int .u64 0] 30)).frozen? ⟨w.heap.size, 1, none⟩ = false := by simp
  generalize (w.alloc (.cells #[.bool false, .int .u64 0] 30)) = w0 at *
  go_cut [16] (fun v wx => v = .bool false ∧ w0 = wx)
  case first =>
    by_cases h2 : 2 ≤ (d.size : Int)
    · go_wp2_with fail
      go_meet
      exact ⟨rfl, rfl⟩
    · go_wp2_with fail
      go_meet
      exact ⟨rfl, rfl⟩
  case rest =>
    obtain ⟨rfl, rfl⟩ := hcut
    clear hP
    go_upto_region 3 with (fail)
    go_cut [4] (fun v wx => v = .bool false ∧ w0 = wx)
    case first =>
      rcases hx.out with hx1 | ⟨hx1, c, hx2, hx3⟩
      · go_wp2_with fail
        go_meet
        exact ⟨rfl, rfl⟩
      · go_wp2_with fail
        go_meet
        exact ⟨rfl, rfl⟩
    case rest =>
      obtain ⟨rfl, rfl⟩ := hcut
      clear hx
      go_wp2_with fail
      go_loop [6] (fun vi => ∃ k : Nat, vi = .int .i64 k ∧ k ≤ d.size ∧ Hid (∀ j, j < k → isDig (d.data.toList.getD j 0) = true)) (fun vi => d.size - (intOf vi).toNat)
      case atStart => exact ⟨0, rfl, by omega, fun j hj => absurd hj (by omega)⟩
      case round =>
        obtain ⟨k, rfl, hk, hh⟩ := hrel
        by_cases hkn : k < d.size
        · have hc := hB.out k hkn
          have hkn' : (k : Int) < (d.size : Int) := by omega
          by_cases hq : isDig (d.data.toList.getD k 0) = true
          · have HN : Hid (∀ j, j < k + 1 → isDig (d.data.toList.getD j 0) = true) := fun j hj => by
              by_cases e : j = k
              · rw [e]; exact hq
              · exact hh.out j (by omega)
            generalize d.data.toList.getD k 0 = c at hc hq
            obtain ⟨hv, hv9⟩ := digV_dig c hq
            have hD := Hd (fun W => digit_any c.toNat W c.toNat_lt)
            clear hq hv hB hh hbad hLn
            have hv' : (digV c.toNat : Int) ≤ 9 := by omega
            clear hv9
            generalize (digV c.toNat : Int) = x at hv' hD
            go_wp2_with (go_at_call 70; refine (hD.out _).mono ?_; rintro e w' ⟨rfl, rfl⟩)
            exact ⟨⟨k + 1, rfl, by omega, HN⟩, by simp [intOf]; omega⟩
          · generalize d.data.toList.getD k 0 = c at hc hq
            have hv := digV_nodig c hq
            have hD := Hd (fun W => digit_any c.toNat W c.toNat_lt)
            clear hq hB hh hbad hLn
            have hv' : (9 : Int) < (digV c.toNat : Int) := by omega
            clear hv
            generalize (digV c.toNat : Int) = x at hv' hD
            go_wp2_with (go_at_call 70; refine (hD.out _).mono ?_; rintro e w' ⟨rfl, rfl⟩)
            refine bodyPost_ret (v := .tuple #[.agg #[.bool false, .int .u64 0], .int .i64 3]) (by simp [results, Try.results63, go_sem, c0, c1]) rfl ⟨rfl, (hal.setCell Nr _).setCell Nr _⟩
        · have hkk : k = d.size := by omega
          subst hkk
          rcases hbad.out with (⟨c, hc, hc'⟩ | h) | ⟨h1, h2⟩
          · obtain ⟨j, hj, rfl⟩ := List.mem_iff_getElem.1 hc
            have hl := hLn.out
            have := hh.out j (by omega)
            rw [List.getD, List.getElem?_eq_getElem hj, Option.getD_some, hc'] at this
            cases this
          · clear hB hh hbad hLn
            subst h
            go_wp2
            refine bodyPost_ret (v := .tuple #[.agg #[.bool false, .int .u64 0], .int .i64 3]) (by simp [results, Try.results63, go_sem, c0, c1]) rfl ⟨rfl, (hal.setCell Nr _).setCell Nr _⟩
          · have hl := hLn.out
            have hpos : 0 < d.size := by
              cases hq : d.data.toList with
              | nil => rw [hq] at h1; cases h1
              | cons a r => rw [hq] at hl; simp at hl; omega
            have hx0 := hB.out 0 hpos
            have e48 : d.data.toList.getD 0 0 = 48 := by rw [List.head?_eq_getElem?] at h1; rw [List.getD, h1]; rfl
            rw [e48] at hx0
            have hx0' : ∀ W, (Instr.index 9 (.string d) (.int .i64 0)).run Try.prog W = .ok (.int .u8 48) W := hx0
            have hemp : d.toList.isEmpty = false := by
              rw [← decide_eq_emptyBytes]
              exact decide_eq_false (fun e => by rw [e] at hpos; exact absurd hpos (by decide))
            clear hB hh hbad hLn hl h1 hpos hx0 e48
            go_wp2
            refine bodyPost_ret (v := .tuple #[.agg #[.bool false, .int .u64 0], .int .i64 3]) (by simp [results, Try.results63, go_sem, c0, c1]) rfl ⟨rfl, (hal.setCell Nr _).setCell Nr _⟩
end Go.Proofs.Ytdjcdecbmeickaa
