import Derived.Test.YtbnmmbjajheedaaGreatDoorMg14
import Derived.Test.YtbnmmbjajheedaaGreatDoorMg15
/- A name with atoms behind it: the tokens of such a text. -/
namespace Go.Proofs.YtbnmmbjajheedaaGreatDoor
open Go.RowKit Go.Lib

theorem signs_semi : ∀ x, x ∈ signsB → (59 : UInt8) ∉ x.1.data.toList ∨ x.1.data.toList = [59] := by decide
theorem pre_semi {p l r : List UInt8} (hl : l ≠ []) (hp : (59 : UInt8) ∉ p ∨ p = [59]) : hasPrefix (l ++ 59 :: r) p = hasPrefix l p := by
  rcases hp with h | rfl
  · exact pre_gap h
  · cases l with
    | nil => exact absurd rfl hl
    | cons c l => simp [hasPrefix, List.isPrefixOf]
theorem sign_semi {l r : List UInt8} (hl : l ≠ []) : signL (l ++ 59 :: r) = signL l := by
  unfold signL
  exact find_same _ fun x hx => pre_semi hl (signs_semi x hx)
theorem marked_semi {m r : List UInt8} : markedL (35 :: (m ++ 59 :: r)) = markedL (35 :: m) := by
  rcases minus_split m with ⟨q, rfl⟩ | h
  · rw [List.cons_append, marked_minus, marked_minus, run_gap (by decide)]
  · rw [marked_plain h, marked_plain, run_gap (by decide)]
    rw [pre_gap (by decide)]
    exact h
/-- What stands behind a semicolon plays no part. -/
theorem read_semi {l r : List UInt8} (hl : l ≠ []) : readL (l ++ 59 :: r) = readL l := by
  unfold readL
  rw [sign_semi hl]
  cases signL l with
  | some x => rfl
  | none =>
    simp only
    have h35 : hasPrefix (l ++ 59 :: r) [35] = hasPrefix l [35] := pre_gap (by decide)
    rw [h35]
    by_cases g : hasPrefix l [35] = true
    · rw [if_pos g, if_pos g]
      obtain ⟨m, rfl⟩ := has35 g
      rw [List.cons_append, marked_semi]
    · rw [if_neg g, if_neg g]
      have hk : kindOf (l ++ 59 :: r) = kindOf l := by
        unfold kindOf
        rw [run_gap (by decide)]
        cases l with
        | nil => exact absurd rfl hl
        | cons c l => rfl
      unfold readR
      rw [hk, run_gap (by decide)]
theorem take_semi {y : Tk} (h : Own y) (rest : List UInt8) (f : Nat) (line : Int) (acc : List (Tk × Int)) (ha : acc.length < 4096) :
    lexA (f + 1) (y.t ++ 59 :: rest) line acc = lexA f (59 :: rest) line (acc ++ [(y, line)]) := by
  obtain ⟨c, r, ht, h10, hbl, hp, hr⟩ := h
  have e1 : readL (y.t ++ 59 :: rest) = (y, 0) := (read_semi (by rw [ht]; simp)).trans hr
  have e2 : hasPrefix (y.t ++ 59 :: rest) [45, 45] = false := (pre_gap (by decide)).trans hp
  have e3 : (y.t ++ 59 :: rest).drop y.t.length = 59 :: rest := by simp
  obtain ⟨M, hM⟩ : ∃ M, y.t ++ 59 :: rest = c :: M := ⟨r ++ 59 :: rest, by rw [ht]; rfl⟩
  rw [hM] at e1 e2 e3 ⊢
  conv => lhs; unfold lexA
  rw [if_neg h10, if_neg hbl, e2, if_neg (by decide), e1]
  simp only [if_true]
  rw [if_neg (by omega), e3]
def tkF : Tk := ⟨1, [102], false, 0⟩
def tkX : Tk := ⟨1, [120], false, 0⟩
def tkEq : Tk := ⟨6, [61], false, 0⟩
def tkSemi : Tk := ⟨6, [59], false, 0⟩
theorem own_f : Own tkF := ⟨102, [], rfl, by decide, by decide, by decide, rfl⟩
theorem own_x : Own tkX := ⟨120, [], rfl, by decide, by decide, by decide, rfl⟩
theorem own_eq : Own tkEq := ⟨61, [], rfl, by decide, by decide, by decide, rfl⟩
theorem own_semi : Own tkSemi := ⟨59, [], rfl, by decide, by decide, by decide, rfl⟩
/-- So many atoms. -/
def manyX : Nat → List UInt8
  | 0 => []
  | n + 1 => 32 :: 120 :: manyX n
theorem manyX_succ : ∀ (n : Nat), manyX (n + 1) = manyX n ++ [32, 120]
  | 0 => rfl
  | n + 1 => by
    show 32 :: 120 :: manyX (n + 1) = 32 :: 120 :: manyX n ++ [32, 120]
    rw [manyX_succ n]
    rfl
theorem manyX_len : ∀ (n : Nat), (manyX n).length = 2 * n
  | 0 => rfl
  | n + 1 => by simp only [manyX, List.length_cons, manyX_len n]; omega
theorem lexA_many : ∀ (n : Nat) (y : Tk) (acc : List (Tk × Int)) (f : Nat), Own y → 2 * n + 2 < f → acc.length + n + 2 ≤ 4096 → lexA f (y.t ++ (manyX n ++ [59])) 1 acc = .good (acc ++ (y, 1) :: (List.replicate n (tkX, 1) ++ [(tkSemi, 1)]))
  | 0, y, acc, f, hy, hf, hl => by
    obtain ⟨g, rfl⟩ : ∃ g, f = g + 1 + 1 := ⟨f - 2, by omega⟩
    show lexA (g + 1 + 1) (y.t ++ 59 :: []) 1 acc = _
    rw [take_semi hy _ _ _ _ (by omega)]
    have h := last_own own_semi g 1 (acc ++ [(y, 1)]) (by rw [List.length_append, List.length_singleton]; omega)
    rw [show tkSemi.t = [59] from rfl] at h
    rw [h]
    simp
  | n + 1, y, acc, f, hy, hf, hl => by
    obtain ⟨g, rfl⟩ : ∃ g, f = g + 1 + 1 := ⟨f - 2, by omega⟩
    show lexA (g + 1 + 1) (y.t ++ 32 :: (tkX.t ++ (manyX n ++ [59]))) 1 acc = _
    rw [take_own hy _ (Or.inl rfl) _ _ _ (by omega), skip_32, lexA_many n tkX _ g own_x (by omega) (by rw [List.length_append, List.length_singleton]; omega)]
    simp [List.replicate_succ]
/-- The tokens of the whole text. -/
theorem lexL_rows {H : Tk} (ho : Own H) (n : Nat) (hn : n ≤ 40) : lexL (102 :: 32 :: 61 :: 32 :: (H.t ++ (manyX n ++ [59]))) = .good ((tkF, 1) :: (tkEq, 1) :: (H, 1) :: (List.replicate n (tkX, 1) ++ [(tkSemi, 1)])) := by
  have e : (102 :: 32 :: 61 :: 32 :: (H.t ++ (manyX n ++ [59]))) = tkF.t ++ 32 :: (tkEq.t ++ 32 :: (H.t ++ (manyX n ++ [59]))) := rfl
  have hlen : 2 * n + 6 ≤ (102 :: 32 :: 61 :: 32 :: (H.t ++ (manyX n ++ [59]))).length := by
    obtain ⟨c, r, ht, _⟩ := ho
    rw [ht]
    simp only [List.length_cons, List.length_append, manyX_len, List.length_nil]
    omega
  unfold lexL
  obtain ⟨g, hg⟩ : ∃ g, (102 :: 32 :: 61 :: 32 :: (H.t ++ (manyX n ++ [59]))).length + 1 = g + 1 + 1 + 1 + 1 := ⟨(102 :: 32 :: 61 :: 32 :: (H.t ++ (manyX n ++ [59]))).length - 3, by omega⟩
  rw [hg, e, take_own own_f _ (Or.inl rfl) _ _ _ (by simp), skip_32, take_own own_eq _ (Or.inl rfl) _ _ _ (by simp), skip_32, lexA_many n H _ g ho (by omega) (by simp; omega)]
  simp

end Go.Proofs.YtbnmmbjajheedaaGreatDoor

/- The document's parser: with each step it goes on, or has a fault. -/
namespace Go.Proofs.YtbnmmbjajheedaaGreatDoor
open Go.RowKit Go.Lib

/-- How much may still come. -/
def mS (s : St) : Nat := if s.e = 0 then s.r.length + 1 else 0
theorem mS_dead {s : St} (h : s.e ≠ 0) : mS s = 0 := if_neg h
theorem mS_alive {s : St} (h : s.e = 0) : mS s = s.r.length + 1 := if_pos h
def Mn {α : Type} (d : Dp α) : Prop := ∀ s, mS (d s).2 ≤ mS s
theorem bad_e {ll er : Int} {s : St} (he : er ≠ 0) : (s.bad ll er).e ≠ 0 := by
  unfold St.bad
  by_cases h : s.e ≠ 0
  · rw [if_pos h]; exact h
  · rw [if_neg h]
    cases s.r with
    | nil => simp
    | cons y r => exact he
theorem bad_mn {ll er : Int} {s : St} (he : er ≠ 0) : mS (s.bad ll er) ≤ mS s := by rw [mS_dead (bad_e he)]; exact Nat.zero_le _
theorem bad_r {ll er : Int} {s : St} : (s.bad ll er).r = s.r := by
  unfold St.bad
  split
  · rfl
  · split
    · rename_i h; exact h.symm
    · rename_i h; exact h.symm
theorem next_mn (s : St) : mS s.next ≤ mS s := by
  unfold mS St.next
  simp only
  split
  · have := List.length_tail (l := s.r); omega
  · exact Nat.le_refl _
theorem next_lt {s : St} (h : s.e = 0) (hr : s.r ≠ []) : mS s.next < mS s := by
  unfold mS St.next
  simp only [h, if_true]
  have := List.length_pos_iff.2 hr
  have := List.length_tail (l := s.r)
  omega
theorem sees_ne {t : Nm} {r : List Tok} (h : seesL t r = true) : r ≠ [] := by rintro rfl; cases h
theorem kind_ne {k : Int} (hk : k ≠ 0) {r : List Tok} (h : kindL r = k) : r ≠ [] := by rintro rfl; exact hk h.symm
theorem need_mn (ll : Int) (t : Nm) (s : St) : mS (needD ll t s) ≤ mS s := by
  unfold needD
  split
  · exact next_mn s
  · exact bad_mn (by decide)
theorem tok_mn (ll k : Int) (s : St) : mS (tokD ll k s).2 ≤ mS s := by
  unfold tokD
  split
  · exact next_mn s
  · exact bad_mn (by decide)
theorem tok_lt {ll k : Int} (hk : k ≠ 0) {s : St} (h : s.e = 0) : mS (tokD ll k s).2 < mS s := by
  unfold tokD
  split
  · rename_i g; exact next_lt h (kind_ne hk g.2)
  · simp only
    rw [mS_dead (bad_e (by decide)), mS_alive h]
    omega
theorem loop_mn (ll : Int) : ∀ (n : Nat) (b : Bool) (acc : List Nm) (s : St), mS (loopN ll n b acc s).2 ≤ mS s
  | 0, _, _, _ => Nat.le_refl _
  | n + 1, b, acc, s => by
    unfold loopN
    split
    · exact Nat.le_trans (loop_mn ll n _ _ _) (tok_mn _ _ _)
    · exact Nat.le_refl _
theorem names_mn (ll : Int) (b : Bool) (s : St) : mS (namesD ll b s).2 ≤ mS s := loop_mn _ _ _ _ _
theorem names_lt {ll : Int} {s : St} (h : s.e = 0) : mS (namesD ll true s).2 < mS s := by
  unfold namesD loopN
  rw [if_pos ⟨h, Or.inl rfl⟩]
  exact Nat.lt_of_le_of_lt (loop_mn _ _ _ _ _) (tok_lt (by decide) h)
theorem loop_len (ll : Int) : ∀ (n : Nat) (b : Bool) (acc : List Nm) (s : St), (loopN ll n b acc s).1.length + mS (loopN ll n b acc s).2 ≤ acc.length + mS s
  | 0, _, _, _ => Nat.le_refl _
  | n + 1, b, acc, s => by
    unfold loopN
    split
    · rename_i g
      have h1 := loop_len ll n false (acc ++ [(tokD ll 1 s).1.1.t]) (tokD ll 1 s).2
      have h2 := tok_lt (ll := ll) (k := 1) (by decide) g.1
      simp only [List.length_append, List.length_cons, List.length_nil] at h1
      omega
    · exact Nat.le_refl _
theorem names_len (ll : Int) (b : Bool) (s : St) : (namesD ll b s).1.length + mS (namesD ll b s).2 ≤ mS s := by
  have h := loop_len ll (s.r.length + 2) b [] s
  rw [List.length_nil, Nat.zero_add] at h
  exact h
theorem bind_mn {ll : Int} {ex : Dp Ex} (hx : Mn ex) : Mn (bindD ll ex) := fun _ => Nat.le_trans (hx _) (Nat.le_trans (need_mn _ _ _) (names_mn _ _ _))
theorem bind_lt {ll : Int} {ex : Dp Ex} (hx : Mn ex) {s : St} (h : s.e = 0) : mS (bindD ll ex s).2 < mS s := Nat.lt_of_le_of_lt (Nat.le_trans (hx _) (need_mn _ _ _)) (names_lt h)
theorem more_mn {α : Type} {item : Dp α} (hx : Mn item) : ∀ (n : Nat) (acc : List α), Mn (moreD item n acc)
  | 0, _ => fun _ => Nat.le_refl _
  | n + 1, acc => fun s => by
    unfold moreD
    split
    · exact Nat.le_trans (more_mn hx n _ _) (Nat.le_trans (hx _) (next_mn _))
    · exact Nat.le_refl _
theorem some_mn {α : Type} {item : Dp α} (hx : Mn item) : Mn (someD item) := fun s => Nat.le_trans (more_mn hx _ _ _) (hx s)
theorem atom_mn {ll : Int} {ex : Dp Ex} (hx : Mn ex) : Mn (atomD ll ex) := fun s => by
  unfold atomD
  split
  · exact tok_mn _ _ _
  split
  · exact tok_mn _ _ _
  split
  · exact tok_mn _ _ _
  split
  · exact tok_mn _ _ _
  · exact Nat.le_trans (need_mn _ _ _) (Nat.le_trans (hx _) (next_mn _))
theorem atom_lt {ll : Int} {ex : Dp Ex} (hx : Mn ex) {s : St} (h : s.e = 0) (hb : begins s.r) : mS (atomD ll ex s).2 < mS s := by
  unfold atomD
  split
  · exact tok_lt (by decide) h
  split
  · exact tok_lt (by decide) h
  split
  · exact tok_lt (by decide) h
  split
  · exact tok_lt (by decide) h
  · rename_i g1 g2 g3 g4
    have hs : seesL [40] s.r = true := by
      rcases hb with h | h | h | h | h
      · exact absurd h g1
      · exact absurd h g2
      · exact absurd h g3
      · exact absurd h g4
      · exact h
    exact Nat.lt_of_le_of_lt (Nat.le_trans (need_mn _ _ _) (hx _)) (next_lt h (sees_ne hs))
theorem atoms_mn {ll : Int} {ex : Dp Ex} (hx : Mn ex) : ∀ (n : Nat) (acc : List Ex), Mn (atomsD ll ex n acc)
  | 0, _ => fun _ => Nat.le_refl _
  | n + 1, acc => fun s => by
    unfold atomsD
    split
    · exact Nat.le_trans (atoms_mn hx n _ _) (atom_mn hx _)
    · exact Nat.le_refl _
theorem atomsd_len {ll : Int} {ex : Dp Ex} (hx : Mn ex) : ∀ (n : Nat) (acc : List Ex) (s : St), (atomsD ll ex n acc s).1.length + mS (atomsD ll ex n acc s).2 ≤ acc.length + mS s
  | 0, _, _ => Nat.le_refl _
  | n + 1, acc, s => by
    unfold atomsD
    split
    · rename_i g
      have h1 := atomsd_len (ll := ll) hx n (acc ++ [(atomD ll ex s).1]) (atomD ll ex s).2
      have h2 := atom_lt (ll := ll) hx g.1 g.2
      simp only [List.length_append, List.length_cons, List.length_nil] at h1
      omega
    · exact Nat.le_refl _
theorem row_mn {ll : Int} {ex : Dp Ex} (hx : Mn ex) : Mn (rowD ll ex) := fun s => by
  unfold rowD
  simp only
  split
  · exact Nat.le_trans (bad_mn (by decide)) (atoms_mn hx _ _ _)
  · exact atoms_mn hx _ _ _
theorem alt_mn {ll : Int} {ex : Dp Ex} (hx : Mn ex) : Mn (altD ll ex) := fun s => by
  unfold altD
  split
  · exact Nat.le_trans (hx _) (Nat.le_trans (need_mn _ _ _) (Nat.le_trans (names_mn _ _ _) (tok_mn _ _ _)))
  split
  · exact Nat.le_trans (hx _) (Nat.le_trans (need_mn _ _ _) (tok_mn _ _ _))
  · exact Nat.le_trans (hx _) (Nat.le_trans (need_mn _ _ _) (tok_mn _ _ _))
theorem let_mn {ll : Int} {ex : Dp Ex} (hx : Mn ex) : Mn (letD ll ex) := fun _ => Nat.le_trans (hx _) (Nat.le_trans (need_mn _ _ _) (some_mn (bind_mn hx) _))
theorem of_mn (ll : Int) (s : St) : mS (ofD ll s) ≤ mS s := Nat.le_trans (need_mn _ _ _) (need_mn _ _ _)
theorem case_mn {ll : Int} {ex : Dp Ex} (hx : Mn ex) : Mn (caseD ll ex) := fun s => by
  unfold caseD
  split
  · exact Nat.le_trans (next_mn _) (Nat.le_trans (of_mn _ _) (hx _))
  · exact Nat.le_trans (need_mn _ _ _) (Nat.le_trans (some_mn (alt_mn hx) _) (Nat.le_trans (of_mn _ _) (hx _)))
theorem lam_mn {ll : Int} {ex : Dp Ex} (hx : Mn ex) : Mn (lamD ll ex) := fun _ => Nat.le_trans (hx _) (Nat.le_trans (need_mn _ _ _) (names_mn _ _ _))
theorem rows_mn {ll : Int} {ex : Dp Ex} (hx : Mn ex) : Mn (rowsD ll ex) := fun s => by
  unfold rowsD
  split
  · exact Nat.le_trans (row_mn hx _) (Nat.le_trans (tok_mn _ _ _) (row_mn hx _))
  · exact row_mn hx _
theorem expr_mn {ll : Int} : ∀ k, Mn (exprD ll k)
  | 0 => fun s => by
    unfold exprD
    split
    · exact Nat.le_refl _
    · refine Nat.le_trans (bad_mn (by decide)) ?_
      split
      · exact bad_mn (by decide)
      · exact Nat.le_refl _
  | k + 1 => fun s => by
    unfold exprD
    split
    · exact Nat.le_refl _
    split
    · exact Nat.le_trans (let_mn (expr_mn k) _) (next_mn _)
    split
    · exact Nat.le_trans (case_mn (expr_mn k) _) (next_mn _)
    split
    · exact Nat.le_trans (lam_mn (expr_mn k) _) (next_mn _)
    · exact rows_mn (expr_mn k) _
theorem decl_mn (ll : Int) (s : St) : mS (declD ll s) ≤ mS s := by
  unfold declD
  split
  · exact bad_mn (by decide)
  · exact Nat.le_refl _
theorem decls_mn (ll : Int) : ∀ (n : Nat) (acc : List (Nm × Int)), Mn (declsD ll n acc)
  | 0, _ => fun _ => Nat.le_refl _
  | n + 1, acc => fun s => by
    unfold declsD
    split
    · exact Nat.le_trans (decls_mn ll n _ _) (Nat.le_trans (tok_mn _ _ _) (Nat.le_trans (decl_mn _ _) (tok_mn _ _ _)))
    · exact Nat.le_refl _
theorem decl_lt {ll : Int} {s : St} (h : s.e = 0) : mS (tokD ll 3 (declD ll (tokD ll 2 s).2)).2 < mS s := Nat.lt_of_le_of_lt (Nat.le_trans (tok_mn _ _ _) (decl_mn _ _)) (tok_lt (by decide) h)
theorem declsd_len (ll : Int) : ∀ (n : Nat) (acc : List (Nm × Int)) (s : St), (declsD ll n acc s).1.length + mS (declsD ll n acc s).2 ≤ acc.length + mS s
  | 0, _, _ => Nat.le_refl _
  | n + 1, acc, s => by
    unfold declsD
    split
    · rename_i g
      have h1 := declsd_len ll n (acc ++ [((tokD ll 2 s).1.1.t, (tokD ll 3 (declD ll (tokD ll 2 s).2)).1.1.x)]) (tokD ll 3 (declD ll (tokD ll 2 s).2)).2
      have h2 := decl_lt (ll := ll) g.1
      simp only [List.length_append, List.length_cons, List.length_nil] at h1
      omega
    · exact Nat.le_refl _
theorem data_mn (ll : Int) : Mn (dataD ll) := fun _ => Nat.le_trans (need_mn _ _ _) (decls_mn _ _ _ _)

end Go.Proofs.YtbnmmbjajheedaaGreatDoor

/- The document's parser, side by side with itself: tokens whose lines are moved, tokens that stand behind them. -/
namespace Go.Proofs.YtbnmmbjajheedaaGreatDoor
open Go.RowKit Go.Lib

/-- Lines moved. -/
def Mv (k : Int) (r : List Tok) : List Tok := r.map fun y => (y.1, y.2 + k)
/-- Both go on, at the same place. -/
def Syn (k : Int) (tl : List Tok) (s s' : St) : Prop := s.e = 0 ∧ s'.e = 0 ∧ s'.r = Mv k s.r ++ tl ∧ (s.r ≠ [] ∨ tl = [])
/-- The first one has come to its end. -/
def Ovr (tl : List Tok) (s s' : St) : Prop := (s.e = 17 ∧ (tl = [] → s'.e = 17)) ∨ (s.e = 0 ∧ s.r = [] ∧ tl ≠ [])
/-- Both have the same fault. -/
def Flt (k : Int) (s s' : St) : Prop := s.e ≠ 0 ∧ s'.e = s.e ∧ s'.ln = s.ln + k
def Rl (k : Int) (tl : List Tok) (s s' : St) : Prop := Syn k tl s s' ∨ Ovr tl s s' ∨ Flt k s s'
def Rsv {α : Type} (k : Int) (tl : List Tok) (x x' : α × St) : Prop := (Syn k tl x.2 x'.2 ∧ x.1 = x'.1) ∨ Ovr tl x.2 x'.2 ∨ Flt k x.2 x'.2
def OvD {α : Type} (d : Dp α) : Prop := ∀ s, (s.e = 17 ∨ s.e = 0 ∧ s.r = []) → ((d s).2.e = 17 ∨ (d s).2.e = 0 ∧ (d s).2.r = [])
theorem ovr_keep {α β : Type} {tl : List Tok} {d : Dp α} {d' : Dp β} (ho : OvD d) (hd : Dead d) (hd' : Dead d') {s s' : St} (h : Ovr tl s s') : Ovr tl (d s).2 (d' s').2 := by
  rcases h with ⟨h1, h2⟩ | ⟨h1, h2, h3⟩
  · refine Or.inl ⟨(hd s (by rw [h1]; decide)).1.trans h1, fun e => ?_⟩
    have h := h2 e
    exact (hd' s' (by rw [h]; decide)).1.trans h
  · rcases ho s (Or.inr ⟨h1, h2⟩) with h | ⟨h, h'⟩
    · exact Or.inl ⟨h, fun e => absurd e h3⟩
    · exact Or.inr ⟨h, h', h3⟩
theorem flt_keep {α β : Type} {k : Int} {d : Dp α} {d' : Dp β} (hd : Dead d) (hd' : Dead d') {s s' : St} (h : Flt k s s') : Flt k (d s).2 (d' s').2 := by
  obtain ⟨h1, h2, h3⟩ := h
  have a := hd s h1
  have b := hd' s' (by rw [h2]; exact h1)
  exact ⟨by rw [a.1]; exact h1, by rw [b.1, a.1]; exact h2, by rw [b.2, a.2]; exact h3⟩
structure Bis {α : Type} (k : Int) (tl : List Tok) (d d' : Dp α) : Prop where
  go : ∀ s s', Syn k tl s s' → Rsv k tl (d s) (d' s')
  ov : OvD d
  dd : Dead d
  dd' : Dead d'
theorem Bis.sm {α : Type} {k : Int} {tl : List Tok} {d d' : Dp α} (h : Bis k tl d d') {s s' : St} (hr : Rl k tl s s') : Rsv k tl (d s) (d' s') := by
  rcases hr with g | o | f
  · exact h.go s s' g
  · exact Or.inr (Or.inl (ovr_keep h.ov h.dd h.dd' o))
  · exact Or.inr (Or.inr (flt_keep h.dd h.dd' f))
theorem dead_bind {α β : Type} {d : Dp α} {f : α → Dp β} (h : Dead d) (hf : ∀ a, Dead (f a)) : Dead (fun s => f (d s).1 (d s).2) := fun s hs => by
  have h1 := h s hs
  have h2 := hf (d s).1 (d s).2 (by rw [h1.1]; exact hs)
  exact ⟨h2.1.trans h1.1, h2.2.trans h1.2⟩
theorem Bis.bind {α β : Type} {k : Int} {tl : List Tok} {d d' : Dp α} {f f' : α → Dp β} (h : Bis k tl d d') (hf : ∀ a, Bis k tl (f a) (f' a)) : Bis k tl (fun s => f (d s).1 (d s).2) (fun s => f' (d' s).1 (d' s).2) where
  go := fun s s' hg => by
    rcases h.go s s' hg with ⟨g, e⟩ | o | f
    · show Rsv k tl (f (d s).1 (d s).2) (f' (d' s').1 (d' s').2)
      rw [← e]
      exact (hf _).go _ _ g
    · exact Or.inr (Or.inl (ovr_keep (hf _).ov (hf _).dd (hf _).dd' o))
    · exact Or.inr (Or.inr (flt_keep (hf _).dd (hf _).dd' f))
  ov := fun s hs => (hf _).ov _ (h.ov s hs)
  dd := dead_bind h.dd fun a => (hf a).dd
  dd' := dead_bind h.dd' fun a => (hf a).dd'
theorem dead_pure {α : Type} (a : α) : Dead (fun s : St => (a, s)) := fun _ _ => ⟨rfl, rfl⟩
theorem Bis.pure {α : Type} {k : Int} {tl : List Tok} (a : α) : Bis k tl (fun s => (a, s)) (fun s => (a, s)) where
  go := fun _ _ h => Or.inl ⟨h, rfl⟩
  ov := fun _ h => h
  dd := dead_pure a
  dd' := dead_pure a
theorem Bis.ite {α : Type} {k : Int} {tl : List Tok} {c : St → Prop} [DecidablePred c] {d1 d1' d2 d2' : Dp α} (hc : ∀ s s', Syn k tl s s' → (c s ↔ c s')) (h1 : Bis k tl d1 d1') (h2 : Bis k tl d2 d2') : Bis k tl (fun s => if c s then d1 s else d2 s) (fun s => if c s then d1' s else d2' s) where
  go := fun s s' hg => by
    have h := hc s s' hg
    by_cases g : c s
    · simp only [if_pos g, if_pos (h.1 g)]; exact h1.go s s' hg
    · simp only [if_neg g, if_neg (fun e => g (h.2 e))]; exact h2.go s s' hg
  ov := fun s hs => by
    by_cases g : c s
    · simp only [if_pos g]; exact h1.ov s hs
    · simp only [if_neg g]; exact h2.ov s hs
  dd := fun s hs => by
    by_cases g : c s
    · simp only [if_pos g]; exact h1.dd s hs
    · simp only [if_neg g]; exact h2.dd s hs
  dd' := fun s hs => by
    by_cases g : c s
    · simp only [if_pos g]; exact h1.dd' s hs
    · simp only [if_neg g]; exact h2.dd' s hs

/-! ### What stands ahead -/
theorem Syn.kind {k : Int} {tl : List Tok} {s s' : St} (h : Syn k tl s s') : kindL s'.r = kindL s.r := by
  obtain ⟨-, -, h, h'⟩ := h
  rw [h]
  cases hr : s.r with
  | nil => rw [h'.resolve_left (by rw [hr]; simp)]; rfl
  | cons y r => rfl
theorem Syn.sees {k : Int} {tl : List Tok} {s s' : St} (h : Syn k tl s s') (t : Nm) : seesL t s'.r = seesL t s.r := by
  obtain ⟨-, -, h, h'⟩ := h
  rw [h]
  cases hr : s.r with
  | nil => rw [h'.resolve_left (by rw [hr]; simp)]; rfl
  | cons y r => rfl
theorem Syn.tok0 {k : Int} {tl : List Tok} {s s' : St} (h : Syn k tl s s') : (tokO s'.r).1 = (tokO s.r).1 := by
  obtain ⟨-, -, h, h'⟩ := h
  rw [h]
  cases hr : s.r with
  | nil => rw [h'.resolve_left (by rw [hr]; simp)]; rfl
  | cons y r => rfl
theorem Syn.begins {k : Int} {tl : List Tok} {s s' : St} (h : Syn k tl s s') : begins s.r ↔ begins s'.r := by
  unfold Go.Proofs.YtbnmmbjajheedaaGreatDoor.begins
  rw [h.kind, h.sees]
theorem Syn.starts {k : Int} {tl : List Tok} {s s' : St} (h : Syn k tl s s') : startsL s.r ↔ startsL s'.r := by
  unfold startsL
  rw [h.kind, h.sees, h.sees, h.sees, h.sees]
theorem syn_next {k : Int} {tl : List Tok} {s s' : St} (h : Syn k tl s s') (hr : s.r ≠ []) : Rl k tl s.next s'.next := by
  obtain ⟨h0, h1, h2, h3⟩ := h
  cases hs : s.r with
  | nil => exact absurd hs hr
  | cons y r =>
    rw [hs] at h2
    have e1 : s.next.r = r := by show s.r.tail = r; rw [hs]; rfl
    have e2 : s'.next.r = Mv k r ++ tl := by show s'.r.tail = _; rw [h2]; rfl
    by_cases g : r = [] ∧ tl ≠ []
    · exact Or.inr (Or.inl (Or.inr ⟨h0, by rw [e1]; exact g.1, g.2⟩))
    · refine Or.inl ⟨h0, h1, by rw [e1, e2], ?_⟩
      rw [e1]
      by_cases g1 : r = []
      · exact Or.inr (Classical.byContradiction fun e => g ⟨g1, e⟩)
      · exact Or.inl g1
theorem syn_bad {k : Int} {tl : List Tok} {s s' : St} (h : Syn k tl s s') {ll ll' er : Int} (he : er ≠ 0) : Rl k tl (s.bad ll er) (s'.bad ll' er) := by
  obtain ⟨h0, h1, h2, h3⟩ := h
  unfold St.bad
  rw [if_neg (by simpa using h0), if_neg (by simpa using h1), h2]
  cases hr : s.r with
  | nil => rw [h3.resolve_left (by rw [hr]; simp)]; exact Or.inr (Or.inl (Or.inl ⟨rfl, fun _ => rfl⟩))
  | cons y r => exact Or.inr (Or.inr ⟨he, rfl, rfl⟩)
theorem bad_ov {ll er : Int} {s : St} (h : s.e = 17 ∨ s.e = 0 ∧ s.r = []) : (s.bad ll er).e = 17 := by
  rcases h with h | ⟨h, h'⟩
  · rw [bad_dead (by rw [h]; decide)]; exact h
  · unfold St.bad; rw [if_neg (by simpa using h), h']
def badU (ll er : Int) : Dp Unit := fun s => ((), s.bad ll er)
theorem badU_dead (ll er : Int) : Dead (badU ll er) := fun s h => by unfold badU; simp only; rw [bad_dead h]; exact ⟨rfl, rfl⟩
theorem badU_bis {k : Int} {tl : List Tok} (ll ll' er : Int) (he : er ≠ 0) : Bis k tl (badU ll er) (badU ll' er) where
  go := fun _ _ h => (syn_bad h he).imp (fun h => ⟨h, rfl⟩) id
  ov := fun _ h => Or.inl (bad_ov h)
  dd := badU_dead _ _
  dd' := badU_dead _ _
def needU (ll : Int) (t : Nm) : Dp Unit := fun s => ((), needD ll t s)
theorem needU_dead (ll : Int) (t : Nm) : Dead (needU ll t) := fun s h => by unfold needU; simp only; rw [need_dead h]; exact ⟨rfl, rfl⟩
theorem needU_bis {k : Int} {tl : List Tok} (ll ll' : Int) (t : Nm) : Bis k tl (needU ll t) (needU ll' t) where
  go := fun s s' h => by
    unfold needU needD
    by_cases g : seesL t s.r = true
    · simp only [if_pos (show s.e = 0 ∧ seesL t s.r = true from ⟨h.1, g⟩), if_pos (show s'.e = 0 ∧ seesL t s'.r = true from ⟨h.2.1, by rw [h.sees]; exact g⟩)]
      exact (syn_next h (sees_ne g)).imp (fun h => ⟨h, rfl⟩) id
    · simp only [if_neg (show ¬ (s.e = 0 ∧ seesL t s.r = true) from fun e => g e.2), if_neg (show ¬ (s'.e = 0 ∧ seesL t s'.r = true) from fun e => g (by rw [← h.sees]; exact e.2))]
      exact (syn_bad h (by decide)).imp (fun h => ⟨h, rfl⟩) id
  ov := fun s h => by
    unfold needU needD
    simp only
    rw [if_neg]
    · exact Or.inl (bad_ov h)
    · rintro ⟨e, g⟩
      rcases h with h | ⟨-, h⟩
      · rw [h] at e; cases e
      · exact sees_ne g h
  dd := needU_dead _ _
  dd' := needU_dead _ _
/-- A token, but for its line. -/
def tkD (ll k : Int) : Dp Tk := fun s => ((tokD ll k s).1.1, (tokD ll k s).2)
theorem tkD_dead (ll k : Int) : Dead (tkD ll k) := fun s h => by unfold tkD; simp only; rw [tok_dead h]; exact ⟨rfl, rfl⟩
theorem tkD_bis {k : Int} {tl : List Tok} (ll ll' j : Int) (hj : j ≠ 0) : Bis k tl (tkD ll j) (tkD ll' j) where
  go := fun s s' h => by
    unfold tkD tokD
    by_cases g : kindL s.r = j
    · simp only [if_pos (show s.e = 0 ∧ kindL s.r = j from ⟨h.1, g⟩), if_pos (show s'.e = 0 ∧ kindL s'.r = j from ⟨h.2.1, by rw [h.kind]; exact g⟩)]
      exact (syn_next h (kind_ne hj g)).imp (fun e => ⟨e, h.tok0.symm⟩) id
    · simp only [if_neg (show ¬ (s.e = 0 ∧ kindL s.r = j) from fun e => g e.2), if_neg (show ¬ (s'.e = 0 ∧ kindL s'.r = j) from fun e => g (by rw [← h.kind]; exact e.2))]
      exact (syn_bad h (by decide)).imp (fun h => ⟨h, rfl⟩) id
  ov := fun s h => by
    unfold tkD tokD
    simp only
    rw [if_neg]
    · exact Or.inl (bad_ov h)
    · rintro ⟨e, g⟩
      rcases h with h | ⟨-, h⟩
      · rw [h] at e; cases e
      · exact kind_ne hj g h
  dd := tkD_dead _ _
  dd' := tkD_dead _ _

/-! ### As often as something holds -/
def rep {α γ : Type} (c : γ → St → Bool) (d : Dp α) (g : γ → α → γ) : Nat → γ → Dp γ
  | 0, x => fun s => (x, s)
  | n + 1, x => fun s => if c x s = true then rep c d g n (g x (d s).1) (d s).2 else (x, s)
theorem rep_dead {α γ : Type} {c : γ → St → Bool} {d : Dp α} {g : γ → α → γ} (hc : ∀ x s, c x s = true → s.e = 0) (n : Nat) (x : γ) : Dead (rep c d g n x) := fun s h => by
  cases n with
  | zero => exact ⟨rfl, rfl⟩
  | succ n => unfold rep; rw [if_neg (fun e => h (hc _ _ e))]; exact ⟨rfl, rfl⟩
theorem rep_ov {α γ : Type} {c : γ → St → Bool} {d : Dp α} {g : γ → α → γ} (hd : OvD d) : ∀ (n : Nat) (x : γ), OvD (rep c d g n x)
  | 0, _ => fun _ h => h
  | n + 1, x => fun s h => by
    unfold rep
    split
    · exact rep_ov hd n _ _ (hd s h)
    · exact h
theorem rep_go {α γ : Type} {k : Int} {tl : List Tok} {c : γ → St → Bool} {d d' : Dp α} {g : γ → α → γ} (j : Nat) (hb : Bis k tl d d') (hc : ∀ x s s', Syn k tl s s' → c x s = c x s') (he : ∀ x s, c x s = true → s.e = 0) (hj : ∀ x s, c x s = true → j < mS s) (hl : ∀ x s, c x s = true → mS (d s).2 < mS s) (hl' : ∀ x s, c x s = true → mS (d' s).2 < mS s) :
    ∀ (n n' : Nat) (x : γ) (s s' : St), Syn k tl s s' → mS s ≤ n + j → mS s' ≤ n' + j → Rsv k tl (rep c d g n x s) (rep c d' g n' x s')
  | 0, n', x, s, s', h, h1, _ => by
    have hf : ¬ c x s = true := fun e => by have := hj x s e; omega
    have hf' : ¬ c x s' = true := fun e => hf (by rw [hc x s s' h]; exact e)
    cases n' with
    | zero => exact Or.inl ⟨h, rfl⟩
    | succ n' =>
      rw [show rep c d' g (n' + 1) x s' = (x, s') from if_neg hf']
      exact Or.inl ⟨h, rfl⟩
  | n + 1, n', x, s, s', h, h1, h2 => by
    by_cases hf : c x s = true
    · have hf' : c x s' = true := by rw [← hc x s s' h]; exact hf
      have h3 := hl x s hf
      have h4 := hl' x s' hf'
      have h5 := hj x s' hf'
      cases n' with
      | zero => omega
      | succ n' =>
        rw [show rep c d g (n + 1) x s = rep c d g n (g x (d s).1) (d s).2 from if_pos hf, show rep c d' g (n' + 1) x s' = rep c d' g n' (g x (d' s').1) (d' s').2 from if_pos hf']
        rcases hb.go s s' h with ⟨h6, h7⟩ | o | f
        · rw [← h7]
          exact rep_go j hb hc he hj hl hl' n n' _ _ _ h6 (by omega) (by omega)
        · exact Or.inr (Or.inl (ovr_keep (rep_ov hb.ov _ _) (rep_dead he _ _) (rep_dead he _ _) o))
        · exact Or.inr (Or.inr (flt_keep (rep_dead he _ _) (rep_dead he _ _) f))
    · have hf' : ¬ c x s' = true := fun e => hf (by rw [hc x s s' h]; exact e)
      rw [show rep c d g (n + 1) x s = (x, s) from if_neg hf]
      cases n' with
      | zero => exact Or.inl ⟨h, rfl⟩
      | succ n' =>
        rw [show rep c d' g (n' + 1) x s' = (x, s') from if_neg hf']
        exact Or.inl ⟨h, rfl⟩
theorem rep_bis {α γ : Type} {k : Int} {tl : List Tok} {c : γ → St → Bool} {d d' : Dp α} {g : γ → α → γ} (j : Nat) (F : St → Nat) (hF : ∀ s, mS s ≤ F s + j) (hb : Bis k tl d d') (hc : ∀ x s s', Syn k tl s s' → c x s = c x s') (he : ∀ x s, c x s = true → s.e = 0) (hj : ∀ x s, c x s = true → j < mS s) (hl : ∀ x s, c x s = true → mS (d s).2 < mS s) (hl' : ∀ x s, c x s = true → mS (d' s).2 < mS s) (x : γ) : Bis k tl (fun s => rep c d g (F s) x s) (fun s => rep c d' g (F s) x s) where
  go := fun s s' h => rep_go j hb hc he hj hl hl' _ _ _ _ _ h (hF s) (hF s')
  ov := fun s h => rep_ov hb.ov _ _ s h
  dd := fun s h => rep_dead he _ _ s h
  dd' := fun s h => rep_dead he _ _ s h

end Go.Proofs.YtbnmmbjajheedaaGreatDoor

/- The document's parser, side by side with itself: each of its rules, and a module. -/
namespace Go.Proofs.YtbnmmbjajheedaaGreatDoor
open Go.RowKit Go.Lib

def bindB {α β : Type} (d : Dp α) (f : α → Dp β) : Dp β := fun s => f (d s).1 (d s).2
theorem bb {α β : Type} {k : Int} {tl : List Tok} {d d' : Dp α} {f f' : α → Dp β} (h : Bis k tl d d') (hf : ∀ a, Bis k tl (f a) (f' a)) : Bis k tl (bindB d f) (bindB d' f') := h.bind hf
def nextU : Dp Unit := fun s => ((), s.next)
theorem nextU_bis {k : Int} {tl : List Tok} : Bis k tl nextU nextU where
  go := fun s s' h => by
    by_cases hr : s.r = []
    · obtain ⟨h0, h1, h2, h3⟩ := h
      have ht := h3.resolve_left (fun g => g hr)
      refine Or.inl ⟨⟨h0, h1, ?_, Or.inr ht⟩, rfl⟩
      show s'.r.tail = Mv k s.r.tail ++ tl
      rw [h2, hr, ht]
      rfl
    · exact (syn_next h hr).imp (fun h => ⟨h, rfl⟩) id
  ov := fun s h => by
    rcases h with h | ⟨h, h'⟩
    · exact Or.inl h
    · exact Or.inr ⟨h, by show s.r.tail = []; rw [h']; rfl⟩
  dd := fun _ _ => ⟨rfl, rfl⟩
  dd' := fun _ _ => ⟨rfl, rfl⟩
def kindU : Dp Int := fun s => (kindL s.r, s)
theorem kindU_bis {k : Int} {tl : List Tok} : Bis k tl kindU kindU where
  go := fun _ _ h => Or.inl ⟨h, h.kind.symm⟩
  ov := fun _ h => h
  dd := fun _ _ => ⟨rfl, rfl⟩
  dd' := fun _ _ => ⟨rfl, rfl⟩
theorem Syn.alive {k : Int} {tl : List Tok} {s s' : St} (h : Syn k tl s s') : s.e = 0 ↔ s'.e = 0 := ⟨fun _ => h.2.1, fun _ => h.1⟩

/-! ### Names -/
def nmC (x : Bool × List Nm) (s : St) : Bool := decide (s.e = 0 ∧ (x.1 = true ∨ kindL s.r = 1))
theorem loop_rep (ll : Int) : ∀ (n : Nat) (b : Bool) (acc : List Nm) (s : St), loopN ll n b acc s = ((rep nmC (tkD ll 1) (fun x y => (false, x.2 ++ [y.t])) n (b, acc) s).1.2, (rep nmC (tkD ll 1) (fun x y => (false, x.2 ++ [y.t])) n (b, acc) s).2)
  | 0, _, _, _ => rfl
  | n + 1, b, acc, s => by
    unfold loopN rep
    by_cases g : s.e = 0 ∧ (b = true ∨ kindL s.r = 1)
    · rw [if_pos g, if_pos (show nmC (b, acc) s = true from decide_eq_true g)]
      exact loop_rep ll n _ _ _
    · rw [if_neg g, if_neg (show ¬ nmC (b, acc) s = true from fun e => g (of_decide_eq_true e))]
theorem tk_lt {ll j : Int} (hj : j ≠ 0) {s : St} (h : s.e = 0) : mS (tkD ll j s).2 < mS s := tok_lt hj h
theorem names_bis {k : Int} {tl : List Tok} (ll ll' : Int) (b : Bool) : Bis k tl (namesD ll b) (namesD ll' b) := by
  have h : ∀ ll, namesD ll b = bindB (fun s => rep nmC (tkD ll 1) (fun x y => (false, x.2 ++ [y.t])) (s.r.length + 2) (b, []) s) (fun x s => (x.2, s)) := fun ll => by
    funext s
    unfold namesD
    rw [loop_rep]
    rfl
  rw [h, h]
  refine bb (rep_bis 0 (fun s => s.r.length + 2) (fun s => by unfold mS; split <;> omega) (tkD_bis ll ll' 1 (by decide)) (fun x s s' h => ?_) (fun x s e => (of_decide_eq_true e).1) (fun x s e => ?_) (fun x s e => tk_lt (by decide) (of_decide_eq_true e).1) (fun x s e => tk_lt (by decide) (of_decide_eq_true e).1) _) (fun x => Bis.pure x.2)
  · exact decide_eq_decide.2 (by rw [h.kind, h.alive])
  · rw [mS_alive (of_decide_eq_true e).1]; omega

/-! ### Items parted by semicolons -/
def moC {α : Type} (_ : List α) (s : St) : Bool := decide (s.e = 0 ∧ seesL [59] s.r = true)
theorem more_rep {α : Type} (item : Dp α) : ∀ (n : Nat) (acc : List α) (s : St), moreD item n acc s = rep moC (bindB nextU fun _ => item) (fun x a => x ++ [a]) n acc s
  | 0, _, _ => rfl
  | n + 1, acc, s => by
    unfold moreD rep
    by_cases g : s.e = 0 ∧ seesL [59] s.r = true
    · rw [if_pos g, if_pos (show moC acc s = true from decide_eq_true g)]
      exact more_rep item n _ _
    · rw [if_neg g, if_neg (show ¬ moC acc s = true from fun e => g (of_decide_eq_true e))]
theorem some_bis {α : Type} {k : Int} {tl : List Tok} {item item' : Dp α} (h : Bis k tl item item') (hm : Mn item) (hm' : Mn item') : Bis k tl (someD item) (someD item') := by
  have e : ∀ it : Dp α, someD it = bindB it (fun a s => rep moC (bindB nextU fun _ => it) (fun x a => x ++ [a]) (s.r.length + 1) [a] s) := fun it => by
    funext s
    unfold someD
    rw [more_rep]
    rfl
  rw [e, e]
  have lt : ∀ {it : Dp α}, Mn it → ∀ (x : List α) s, moC x s = true → mS ((bindB nextU fun _ => it) s).2 < mS s := fun hm x s e => Nat.lt_of_le_of_lt (hm _) (next_lt (of_decide_eq_true e).1 (sees_ne (of_decide_eq_true e).2))
  refine bb h fun a => rep_bis 0 (fun s => s.r.length + 1) (fun s => by unfold mS; split <;> omega) (bb nextU_bis fun _ => h) (fun x s s' h => ?_) (fun x s e => (of_decide_eq_true e).1) (fun x s e => ?_) (lt hm) (lt hm') _
  · exact decide_eq_decide.2 (by rw [h.sees, h.alive])
  · rw [mS_alive (of_decide_eq_true e).1]; omega

/-! ### The rules, upon an expression's -/
section rules
variable {k : Int} {tl : List Tok} {ll ll' : Int} {ex ex' : Dp Ex}
theorem bind_bis (h : Bis k tl ex ex') : Bis k tl (bindD ll ex) (bindD ll' ex') :=
  show Bis k tl (bindB (namesD ll true) fun ns => bindB (needU ll [61]) fun _ => bindB ex fun x s => ((ns.headD [], ns.tail, x), s)) (bindB (namesD ll' true) fun ns => bindB (needU ll' [61]) fun _ => bindB ex' fun x s => ((ns.headD [], ns.tail, x), s)) from
  bb (names_bis _ _ _) fun _ => bb (needU_bis _ _ _) fun _ => bb h fun _ => Bis.pure _
theorem atom_bis (h : Bis k tl ex ex') : Bis k tl (atomD ll ex) (atomD ll' ex') :=
  Bis.ite (c := fun s => kindL s.r = 1) (fun _ _ h => by rw [h.kind]) (bb (f := fun y s => (Ex.leaf 1 y.t, s)) (f' := fun y s => (Ex.leaf 1 y.t, s)) (tkD_bis ll ll' 1 (by decide)) fun _ => Bis.pure _)
  (Bis.ite (c := fun s => kindL s.r = 2) (fun _ _ h => by rw [h.kind]) (bb (f := fun y s => (Ex.leaf 2 y.t, s)) (f' := fun y s => (Ex.leaf 2 y.t, s)) (tkD_bis ll ll' 2 (by decide)) fun _ => Bis.pure _)
  (Bis.ite (c := fun s => kindL s.r = 7) (fun _ _ h => by rw [h.kind]) (bb (f := fun y s => (Ex.leaf 5 y.t, s)) (f' := fun y s => (Ex.leaf 5 y.t, s)) (tkD_bis ll ll' 7 (by decide)) fun _ => Bis.pure _)
  (Bis.ite (c := fun s => kindL s.r = 3) (fun _ _ h => by rw [h.kind]) (bb (f := fun y s => (Ex.num y.f y.x, s)) (f' := fun y s => (Ex.num y.f y.x, s)) (tkD_bis ll ll' 3 (by decide)) fun _ => Bis.pure _)
  (bb nextU_bis fun _ => bb (f := fun x => bindB (needU ll [41]) fun _ s => (x, s)) (f' := fun x => bindB (needU ll' [41]) fun _ s => (x, s)) h fun _ => bb (needU_bis _ _ _) fun _ => Bis.pure _))))
def atC (_ : List Ex) (s : St) : Bool := decide (s.e = 0 ∧ begins s.r)
theorem atoms_rep (ll : Int) (ex : Dp Ex) : ∀ (n : Nat) (acc : List Ex) (s : St), atomsD ll ex n acc s = rep atC (atomD ll ex) (fun x a => x ++ [a]) n acc s
  | 0, _, _ => rfl
  | n + 1, acc, s => by
    unfold atomsD rep
    by_cases g : s.e = 0 ∧ begins s.r
    · rw [if_pos g, if_pos (show atC acc s = true from decide_eq_true g)]
      exact atoms_rep ll ex n _ _
    · rw [if_neg g, if_neg (show ¬ atC acc s = true from fun e => g (of_decide_eq_true e))]
theorem atoms_bis (h : Bis k tl ex ex') (hm : Mn ex) (hm' : Mn ex') : Bis k tl (fun s => atomsD ll ex (s.r.length + 1) [] s) (fun s => atomsD ll' ex' (s.r.length + 1) [] s) := by
  have e : ∀ ll (it : Dp Ex), (fun s => atomsD ll it (s.r.length + 1) [] s) = (fun s => rep atC (atomD ll it) (fun x a => x ++ [a]) (s.r.length + 1) [] s) := fun ll it => by
    funext s
    rw [atoms_rep]
  rw [e, e]
  refine rep_bis 0 (fun s => s.r.length + 1) (fun s => by unfold mS; split <;> omega) (atom_bis h) (fun x s s' h => ?_) (fun x s e => (of_decide_eq_true e).1) (fun x s e => ?_) (fun x s e => atom_lt hm (of_decide_eq_true e).1 (of_decide_eq_true e).2) (fun x s e => atom_lt hm' (of_decide_eq_true e).1 (of_decide_eq_true e).2) _
  · exact decide_eq_decide.2 (by rw [h.begins, h.alive])
  · rw [mS_alive (of_decide_eq_true e).1]; omega
theorem row_bis (h : Bis k tl ex ex') (hm : Mn ex) (hm' : Mn ex') : Bis k tl (rowD ll ex) (rowD ll' ex') := by
  have e : ∀ ll (it : Dp Ex), rowD ll it = bindB kindU fun j => bindB (fun s => atomsD ll it (s.r.length + 1) [] s) fun l => (if l = [] then bindB (badU ll 3) fun _ s => (rowX j l, s) else fun s => (rowX j l, s)) := fun ll it => by
    funext s
    unfold rowD bindB kindU
    simp only
    split
    · rfl
    · rfl
  rw [e, e]
  refine bb kindU_bis fun j => bb (atoms_bis h hm hm') fun l => ?_
  split
  · exact bb (badU_bis _ _ _ (by decide)) fun _ => Bis.pure _
  · exact Bis.pure _
theorem alt_bis (h : Bis k tl ex ex') : Bis k tl (altD ll ex) (altD ll' ex') :=
  Bis.ite (c := fun s => kindL s.r = 2) (fun _ _ h => by rw [h.kind])
    (bb (f := fun y => bindB (namesD ll false) fun ns => bindB (needU ll [45, 62]) fun _ => bindB ex fun x s => ((0, y.t, false, 0, ns, x), s)) (f' := fun y => bindB (namesD ll' false) fun ns => bindB (needU ll' [45, 62]) fun _ => bindB ex' fun x s => ((0, y.t, false, 0, ns, x), s)) (tkD_bis ll ll' 2 (by decide)) fun _ => bb (names_bis _ _ _) fun _ => bb (needU_bis _ _ _) fun _ => bb h fun _ => Bis.pure _)
  (Bis.ite (c := fun s => kindL s.r = 3) (fun _ _ h => by rw [h.kind])
    (bb (f := fun y => bindB (needU ll [45, 62]) fun _ => bindB ex fun x s => ((1, [], y.f, y.x, [], x), s)) (f' := fun y => bindB (needU ll' [45, 62]) fun _ => bindB ex' fun x s => ((1, [], y.f, y.x, [], x), s)) (tkD_bis ll ll' 3 (by decide)) fun _ => bb (needU_bis _ _ _) fun _ => bb h fun _ => Bis.pure _)
    (bb (f := fun y => bindB (needU ll [45, 62]) fun _ => bindB ex fun x s => ((2, y.t, false, 0, [], x), s)) (f' := fun y => bindB (needU ll' [45, 62]) fun _ => bindB ex' fun x s => ((2, y.t, false, 0, [], x), s)) (tkD_bis ll ll' 1 (by decide)) fun _ => bb (needU_bis _ _ _) fun _ => bb h fun _ => Bis.pure _))
theorem let_bis (h : Bis k tl ex ex') (hm : Mn ex) (hm' : Mn ex') : Bis k tl (letD ll ex) (letD ll' ex') :=
  show Bis k tl (bindB (someD (bindD ll ex)) fun bs => bindB (needU ll [105, 110]) fun _ => bindB ex fun x s => (Ex.mk 6 [] false 0 [] [x] bs [], s)) (bindB (someD (bindD ll' ex')) fun bs => bindB (needU ll' [105, 110]) fun _ => bindB ex' fun x s => (Ex.mk 6 [] false 0 [] [x] bs [], s)) from
  bb (some_bis (bind_bis h) (bind_mn hm) (bind_mn hm')) fun _ => bb (needU_bis _ _ _) fun _ => bb h fun _ => Bis.pure _
def ofU (ll : Int) : Dp Unit := fun s => ((), ofD ll s)
theorem ofU_bis : Bis k tl (ofU ll) (ofU ll') :=
  show Bis k tl (bindB (needU ll [111, 102]) fun _ => needU ll [123]) (bindB (needU ll' [111, 102]) fun _ => needU ll' [123]) from bb (needU_bis _ _ _) fun _ => needU_bis _ _ _
theorem case_bis (h : Bis k tl ex ex') (hm : Mn ex) (hm' : Mn ex') : Bis k tl (caseD ll ex) (caseD ll' ex') :=
  show Bis k tl (bindB ex fun x => bindB (ofU ll) fun _ s => if s.e = 0 ∧ seesL [125] s.r = true then (bindB nextU fun _ s => (Ex.mk 7 [] false 0 [] [x] [] [], s)) s else (bindB (someD (altD ll ex)) fun al => bindB (needU ll [125]) fun _ s => (Ex.mk 7 [] false 0 [] [x] [] al, s)) s)
    (bindB ex' fun x => bindB (ofU ll') fun _ s => if s.e = 0 ∧ seesL [125] s.r = true then (bindB nextU fun _ s => (Ex.mk 7 [] false 0 [] [x] [] [], s)) s else (bindB (someD (altD ll' ex')) fun al => bindB (needU ll' [125]) fun _ s => (Ex.mk 7 [] false 0 [] [x] [] al, s)) s) from
  bb h fun _ => bb ofU_bis fun _ => Bis.ite (fun _ _ h => by rw [h.sees, h.alive]) (bb nextU_bis fun _ => Bis.pure _) (bb (some_bis (alt_bis h) (alt_mn hm) (alt_mn hm')) fun _ => bb (needU_bis _ _ _) fun _ => Bis.pure _)
theorem lam_bis (h : Bis k tl ex ex') : Bis k tl (lamD ll ex) (lamD ll' ex') :=
  show Bis k tl (bindB (namesD ll true) fun ns => bindB (needU ll [45, 62]) fun _ => bindB ex fun x s => (Ex.mk 8 [] false 0 ns [x] [] [], s)) (bindB (namesD ll' true) fun ns => bindB (needU ll' [45, 62]) fun _ => bindB ex' fun x s => (Ex.mk 8 [] false 0 ns [x] [] [], s)) from
  bb (names_bis _ _ _) fun _ => bb (needU_bis _ _ _) fun _ => bb h fun _ => Bis.pure _
theorem rows_bis (h : Bis k tl ex ex') (hm : Mn ex) (hm' : Mn ex') : Bis k tl (rowsD ll ex) (rowsD ll' ex') :=
  show Bis k tl (bindB (rowD ll ex) fun x s => if s.e = 0 ∧ kindL s.r = 4 then (bindB (tkD ll 4) fun y => bindB (rowD ll ex) fun z s => (Ex.mk 5 y.t false 0 [] [x, z] [] [], s)) s else (x, s))
    (bindB (rowD ll' ex') fun x s => if s.e = 0 ∧ kindL s.r = 4 then (bindB (tkD ll' 4) fun y => bindB (rowD ll' ex') fun z s => (Ex.mk 5 y.t false 0 [] [x, z] [] [], s)) s else (x, s)) from
  bb (row_bis h hm hm') fun _ => Bis.ite (fun _ _ h => by rw [h.kind, h.alive]) (bb (tkD_bis ll ll' 4 (by decide)) fun _ => bb (row_bis h hm hm') fun _ => Bis.pure _) (Bis.pure _)
end rules
theorem expr_bis {k : Int} {tl : List Tok} (ll ll' : Int) : ∀ n, Bis k tl (exprD ll n) (exprD ll' n)
  | 0 => by
    have e : ∀ ll, exprD ll 0 = fun s => if s.e ≠ 0 then (blankX, s) else if startsL s.r then (bindB (badU ll 12) fun _ => bindB (badU ll 3) fun _ s => (blankX, s)) s else (bindB (badU ll 3) fun _ s => (blankX, s)) s := fun ll => by
      funext s
      unfold exprD
      split
      · rfl
      · split <;> rfl
    rw [e, e]
    exact Bis.ite (fun _ _ h => by rw [Ne, Ne, h.alive]) (Bis.pure _) (Bis.ite (fun _ _ h => h.starts) (bb (badU_bis _ _ _ (by decide)) fun _ => bb (badU_bis _ _ _ (by decide)) fun _ => Bis.pure _) (bb (badU_bis _ _ _ (by decide)) fun _ => Bis.pure _))
  | n + 1 => by
    have ih := expr_bis (k := k) (tl := tl) ll ll' n
    have e : ∀ ll, exprD ll (n + 1) = fun s => if s.e ≠ 0 then (blankX, s) else if seesL [108, 101, 116] s.r = true then (bindB nextU fun _ => letD ll (exprD ll n)) s else if seesL [99, 97, 115, 101] s.r = true then (bindB nextU fun _ => caseD ll (exprD ll n)) s else if seesL [92] s.r = true then (bindB nextU fun _ => lamD ll (exprD ll n)) s else rowsD ll (exprD ll n) s := fun ll => rfl
    rw [e, e]
    exact Bis.ite (fun _ _ h => by rw [Ne, Ne, h.alive]) (Bis.pure _) (Bis.ite (fun _ _ h => by rw [h.sees]) (bb nextU_bis fun _ => let_bis ih (expr_mn n) (expr_mn n)) (Bis.ite (fun _ _ h => by rw [h.sees]) (bb nextU_bis fun _ => case_bis ih (expr_mn n) (expr_mn n)) (Bis.ite (fun _ _ h => by rw [h.sees]) (bb nextU_bis fun _ => lam_bis ih) (rows_bis ih (expr_mn n) (expr_mn n)))))

/-! ### Constructors -/
def declU (ll : Int) : Dp Unit := fun s => ((), declD ll s)
theorem declU_bis {k : Int} {tl : List Tok} (ll ll' : Int) : Bis k tl (declU ll) (declU ll') := by
  have e : ∀ ll, declU ll = fun s => if kindL s.r = 3 ∧ ((tokO s.r).1.f = true ∨ 24 < (tokO s.r).1.x) then badU ll 1 s else ((), s) := fun ll => by
    funext s
    unfold declU declD badU
    split <;> rfl
  rw [e, e]
  exact Bis.ite (fun _ _ h => by rw [h.kind, h.tok0]) (badU_bis _ _ _ (by decide)) (Bis.pure _)
def oneD (ll : Int) : Dp (Nm × Int) := bindB (tkD ll 2) fun y => bindB (declU ll) fun _ => bindB (tkD ll 3) fun z s => ((y.t, z.x), s)
theorem oneD_bis {k : Int} {tl : List Tok} (ll ll' : Int) : Bis k tl (oneD ll) (oneD ll') := bb (tkD_bis ll ll' 2 (by decide)) fun _ => bb (declU_bis _ _) fun _ => bb (tkD_bis ll ll' 3 (by decide)) fun _ => Bis.pure _
def deC (_ : List (Nm × Int)) (s : St) : Bool := decide (s.e = 0 ∧ kindL s.r = 2)
theorem decls_rep (ll : Int) : ∀ (n : Nat) (acc : List (Nm × Int)) (s : St), declsD ll n acc s = rep deC (oneD ll) (fun x a => x ++ [a]) n acc s
  | 0, _, _ => rfl
  | n + 1, acc, s => by
    unfold declsD rep
    by_cases g : s.e = 0 ∧ kindL s.r = 2
    · rw [if_pos g, if_pos (show deC acc s = true from decide_eq_true g)]
      exact decls_rep ll n _ _
    · rw [if_neg g, if_neg (show ¬ deC acc s = true from fun e => g (of_decide_eq_true e))]
def decsD (ll : Int) : Dp (List (Nm × Int)) := fun s => declsD ll (s.r.length + 1) [] s
theorem decs_bis {k : Int} {tl : List Tok} (ll ll' : Int) : Bis k tl (decsD ll) (decsD ll') := by
  have e : ∀ ll, decsD ll = (fun s => rep deC (oneD ll) (fun x a => x ++ [a]) (s.r.length + 1) [] s) := fun ll => by
    funext s
    unfold decsD
    rw [decls_rep]
  rw [e, e]
  refine rep_bis 0 (fun s => s.r.length + 1) (fun s => by unfold mS; split <;> omega) (oneD_bis ll ll') (fun x s s' h => ?_) (fun x s e => (of_decide_eq_true e).1) (fun x s e => ?_) (fun x s e => decl_lt (of_decide_eq_true e).1) (fun x s e => decl_lt (of_decide_eq_true e).1) _
  · exact decide_eq_decide.2 (by rw [h.kind, h.alive])
  · rw [mS_alive (of_decide_eq_true e).1]; omega

end Go.Proofs.YtbnmmbjajheedaaGreatDoor

/- Two sources, one behind the other: their modules. -/
namespace Go.Proofs.YtbnmmbjajheedaaGreatDoor
open Go.RowKit Go.Lib

/-- Both go on; the first one may stand at its end. -/
def Wk (k : Int) (tl : List Tok) (s s' : St) : Prop := s.e = 0 ∧ s'.e = 0 ∧ s'.r = Mv k s.r ++ tl
theorem need_end {α : Type} {k : Int} {tl : List Tok} {ll ll' : Int} {t : Nm} {x x' : α × St} (h : Rsv k tl x x') : (Wk k tl (needD ll t x.2) (needD ll' t x'.2) ∧ x.1 = x'.1) ∨ ((needD ll t x.2).e = 17 ∧ (tl = [] → (needD ll' t x'.2).e = 17)) ∨ Flt k (needD ll t x.2) (needD ll' t x'.2) := by
  rcases h with ⟨g, e⟩ | o | f
  · by_cases gs : seesL t x.2.r = true
    · refine Or.inl ⟨?_, e⟩
      rw [show needD ll t x.2 = x.2.next from if_pos ⟨g.1, gs⟩, show needD ll' t x'.2 = x'.2.next from if_pos ⟨g.2.1, by rw [g.sees]; exact gs⟩]
      refine ⟨g.1, g.2.1, ?_⟩
      show x'.2.r.tail = Mv k x.2.r.tail ++ tl
      rw [g.2.2.1]
      cases hr : x.2.r with
      | nil => rw [hr] at gs; cases gs
      | cons y r => rfl
    · rw [show needD ll t x.2 = x.2.bad ll 3 from if_neg (fun e => gs e.2), show needD ll' t x'.2 = x'.2.bad ll' 3 from if_neg (fun e => gs (by rw [← g.sees]; exact e.2))]
      rcases syn_bad (ll := ll) (ll' := ll') g (show (3 : Int) ≠ 0 by decide) with h | h | h
      · exact absurd h.1 (bad_e (by decide))
      · rcases h with h | h
        · exact Or.inr (Or.inl h)
        · exact absurd h.1 (bad_e (by decide))
      · exact Or.inr (Or.inr h)
  · rcases o with ⟨h1, h2⟩ | ⟨h1, h2, h3⟩
    · refine Or.inr (Or.inl ⟨?_, fun e => ?_⟩)
      · rw [need_dead (by rw [h1]; decide)]; exact h1
      · have h := h2 e
        rw [need_dead (by rw [h]; decide)]; exact h
    · refine Or.inr (Or.inl ⟨?_, fun e => absurd e h3⟩)
      rw [show needD ll t x.2 = x.2.bad ll 3 from if_neg (fun e => sees_ne e.2 h2)]
      exact bad_ov (Or.inr ⟨h1, h2⟩)
  · refine Or.inr (Or.inr ?_)
    rw [need_dead f.1, need_dead (by rw [f.2.1]; exact f.1)]
    exact f
/-- What a module of the one comes to, beside the other's. -/
def ModR (k : Int) (tl : List Tok) (ll' : Int) (o o' : Md × St) : Prop :=
  (o.2.e = 0 ∧ ∃ (n : Nat) (s : St), s.e = 0 ∧ s.r = tl ∧ tl.length < n ∧ o' = moduleD ll' n o.1.1 o.1.2 s) ∨ (o.2.e = 17 ∧ (tl = [] → o'.2.e = 17)) ∨ Flt k o.2 o'.2
theorem mod_step (ll : Int) (n : Nat) (cs : List (Nm × Int)) (bs : List Bnd) {s : St} (he : s.e = 0) (hr : s.r ≠ []) : moduleD ll (n + 1) cs bs s = if seesL [100, 97, 116, 97] s.r = true then moduleD ll n (cs ++ (decsD ll s.next).1) bs (needD ll [59] (decsD ll s.next).2) else moduleD ll n cs (bs ++ [(bindD ll (exprD ll 200) s).1]) (needD ll [59] (bindD ll (exprD ll 200) s).2) := by
  conv => lhs; unfold moduleD
  exact if_pos ⟨he, hr⟩
theorem mod_stop (ll : Int) (n : Nat) (cs : List (Nm × Int)) (bs : List Bnd) {s : St} (hr : s.r = []) : moduleD ll n cs bs s = ((cs, bs), s) := by
  cases n with
  | zero => rfl
  | succ n => unfold moduleD; exact if_neg (fun h => h.2 hr)
theorem module_bis {k : Int} {tl : List Tok} {ll ll' : Int} : ∀ (n n' : Nat) (cs : List (Nm × Int)) (bs : List Bnd) (s s' : St), Wk k tl s s' → s.r.length < n → s'.r.length < n' → ModR k tl ll' (moduleD ll n cs bs s) (moduleD ll' n' cs bs s')
  | 0, _, _, _, _, _, _, h, _ => absurd h (Nat.not_lt_zero _)
  | _ + 1, 0, _, _, _, _, _, _, h => absurd h (Nat.not_lt_zero _)
  | n + 1, n' + 1, cs, bs, s, s', h, hn, hn' => by
    by_cases hr : s.r = []
    · have e : s'.r = tl := by rw [h.2.2, hr]; rfl
      rw [mod_stop ll _ cs bs hr]
      exact Or.inl ⟨h.1, n' + 1, s', h.2.1, e, by rw [← e]; exact hn', rfl⟩
    have hs : Syn k tl s s' := ⟨h.1, h.2.1, h.2.2, Or.inl hr⟩
    have hr' : s'.r ≠ [] := by
      rw [h.2.2]
      cases hq : s.r with
      | nil => exact absurd hq hr
      | cons y r => exact List.cons_ne_nil _ _
    rw [mod_step ll n cs bs h.1 hr, mod_step ll' n' cs bs h.2.1 hr']
    have fin : ∀ (cs cs' : List (Nm × Int)) (bs bs' : List Bnd) (x x' : St), ((Wk k tl x x' ∧ cs = cs' ∧ bs = bs') ∨ (x.e = 17 ∧ (tl = [] → x'.e = 17)) ∨ Flt k x x') → mS x < mS s → mS x' < mS s' → ModR k tl ll' (moduleD ll n cs bs x) (moduleD ll' n' cs' bs' x') := by
      intro cs cs' bs bs' x x' hx h1 h2
      rcases hx with ⟨hw, rfl, rfl⟩ | ⟨h3, h4⟩ | f
      · rw [mS_alive hw.1, mS_alive h.1] at h1
        rw [mS_alive hw.2.1, mS_alive h.2.1] at h2
        exact module_bis n n' _ _ x x' hw (by omega) (by omega)
      · refine Or.inr (Or.inl ?_)
        rw [module_dead n cs bs (by rw [h3]; decide)]
        refine ⟨h3, fun e => ?_⟩
        have h5 := h4 e
        rw [module_dead n' cs' bs' (by rw [h5]; decide)]
        exact h5
      · refine Or.inr (Or.inr ?_)
        rw [module_dead n cs bs f.1, module_dead n' cs' bs' (by rw [f.2.1]; exact f.1)]
        exact f
    by_cases gd : seesL [100, 97, 116, 97] s.r = true
    · rw [if_pos gd, if_pos (show seesL [100, 97, 116, 97] s'.r = true by rw [hs.sees]; exact gd)]
      have hx : Rsv k tl (decsD ll s.next) (decsD ll' s'.next) := (bb nextU_bis fun _ => decs_bis ll ll').go s s' hs
      have dm : ∀ ll, Mn (decsD ll) := fun ll s => decls_mn ll _ _ s
      refine fin _ _ _ _ _ _ ((need_end hx).imp (fun h => ⟨h.1, by rw [h.2], rfl⟩) id) ?_ ?_
      · exact Nat.lt_of_le_of_lt (Nat.le_trans (need_mn _ _ _) (dm _ _)) (next_lt h.1 hr)
      · exact Nat.lt_of_le_of_lt (Nat.le_trans (need_mn _ _ _) (dm _ _)) (next_lt h.2.1 hr')
    · rw [if_neg gd, if_neg (show ¬ seesL [100, 97, 116, 97] s'.r = true by rw [hs.sees]; exact gd)]
      have hx := (bind_bis (ll := ll) (ll' := ll') (expr_bis (k := k) (tl := tl) ll ll' 200)).go s s' hs
      refine fin _ _ _ _ _ _ ((need_end hx).imp (fun h => ⟨h.1, rfl, by rw [h.2]⟩) id) ?_ ?_
      · exact Nat.lt_of_le_of_lt (need_mn _ _ _) (bind_lt (expr_mn 200) h.1)
      · exact Nat.lt_of_le_of_lt (need_mn _ _ _) (bind_lt (expr_mn 200) h.2.1)
theorem mod_acc (ll : Int) : ∀ (n : Nat) (cs : List (Nm × Int)) (bs : List Bnd) (s : St), moduleD ll n cs bs s = ((cs ++ (moduleD ll n [] [] s).1.1, bs ++ (moduleD ll n [] [] s).1.2), (moduleD ll n [] [] s).2)
  | 0, cs, bs, s => by simp [moduleD]
  | n + 1, cs, bs, s => by
    by_cases g : s.e = 0 ∧ s.r ≠ []
    · rw [mod_step ll n cs bs g.1 g.2, mod_step ll n [] [] g.1 g.2]
      split
      · rw [mod_acc ll n (cs ++ _), mod_acc ll n ([] ++ _)]
        simp
      · rw [mod_acc ll n cs (bs ++ [_]), mod_acc ll n [] ([] ++ [_])]
        simp
    · have e : ∀ cs bs, moduleD ll (n + 1) cs bs s = ((cs, bs), s) := fun cs bs => by unfold moduleD; exact if_neg g
      rw [e, e]
      simp
theorem mv_zero (r : List Tok) : Mv 0 r = r := by
  unfold Mv
  induction r with
  | nil => rfl
  | cons y r ih => rw [List.map_cons, ih, Int.add_zero]
/-- Two sources' tokens, one behind the other, those of the second one further on. -/
def JoinsSaid (k : Int) (o1 o2 o : Out Md) : Prop :=
  match o1 with
  | .bad e ln => e = 17 ∨ o = .bad e ln
  | .ok m _ _ => match o2 with
    | .bad f on => ∃ line, o = .bad f line ∧ (line = on + k ∨ f = 17)
    | .ok n _ _ => ∃ l r, o = .ok (m.1 ++ n.1, m.2 ++ n.2) l r
theorem Ag.bad {α : Type} {ll : Int} {o : Out α} {d : α × St} (h : Ag ll o d) (he : d.2.e ≠ 0) : o = .bad d.2.e d.2.ln := by
  cases o with
  | ok a l r => exact absurd (by rw [h.1]) he
  | bad e ln => obtain ⟨-, h1, h2⟩ := h; rw [h1, h2]
theorem Ag.good {α : Type} {ll : Int} {o : Out α} {d : α × St} (h : Ag ll o d) (he : d.2.e = 0) : ∃ l r, o = .ok d.1 l r := by
  cases o with
  | ok a l r => exact ⟨l, r, by rw [h.1]⟩
  | bad e ln => exact absurd (h.2.1.symm.trans he) h.1
theorem joins_pure {T1 T2 : List Tok} {k : Int} (h1 : Tvs T1) (h2 : Tvs T2) (h : Tvs (T1 ++ Mv k T2)) : JoinsSaid k (parseO T1) (parseO T2) (parseO (T1 ++ Mv k T2)) := by
  have a1 := parse_sim h1
  have a2 := parse_sim h2
  have a := parse_sim h
  have m1 := module_bis (k := 0) (tl := Mv k T2) (ll := lastOf 1 T1) (ll' := lastOf 1 (T1 ++ Mv k T2)) (T1.length + 1) ((T1 ++ Mv k T2).length + 1) [] [] ⟨T1, 0, 0⟩ ⟨T1 ++ Mv k T2, 0, 0⟩ ⟨rfl, rfl, by rw [mv_zero]⟩ (Nat.lt_succ_self _) (Nat.lt_succ_self _)
  generalize moduleD (lastOf 1 T1) (T1.length + 1) [] [] ⟨T1, 0, 0⟩ = D1 at *
  generalize moduleD (lastOf 1 (T1 ++ Mv k T2)) ((T1 ++ Mv k T2).length + 1) [] [] ⟨T1 ++ Mv k T2, 0, 0⟩ = D at *
  cases e1 : parseO T1 with
  | bad e ln =>
    rw [e1] at a1
    obtain ⟨b0, b1, b2⟩ := a1
    rcases m1 with ⟨g, -⟩ | ⟨g, -⟩ | f
    · exact absurd (b1.symm.trans g) b0
    · exact Or.inl (b1.symm.trans g)
    · refine Or.inr ?_
      rw [a.bad (by rw [f.2.1]; exact f.1), f.2.1, f.2.2, b1, b2, Int.add_zero]
  | ok m l r =>
    rw [e1] at a1
    obtain ⟨rfl, -⟩ := a1
    rcases m1 with ⟨-, n, s, hs, hsr, hn, rfl⟩ | ⟨g, -⟩ | f
    · have m2 := module_bis (k := k) (tl := []) (ll := lastOf 1 T2) (ll' := lastOf 1 (T1 ++ Mv k T2)) (T2.length + 1) n [] [] ⟨T2, 0, 0⟩ s ⟨rfl, hs, by rw [hsr, List.append_nil]⟩ (Nat.lt_succ_self _) (by rw [hsr]; exact hn)
      rw [mod_acc] at a
      generalize moduleD (lastOf 1 T2) (T2.length + 1) [] [] ⟨T2, 0, 0⟩ = D2 at *
      generalize moduleD (lastOf 1 (T1 ++ Mv k T2)) n [] [] s = E at *
      cases e2 : parseO T2 with
      | bad f on =>
        rw [e2] at a2
        obtain ⟨b0, b1, b2⟩ := a2
        rcases m2 with ⟨g, -⟩ | ⟨g, g'⟩ | q
        · exact absurd (b1.symm.trans g) b0
        · have h17 := g' rfl
          refine ⟨E.2.ln, ?_, Or.inr (b1.symm.trans g)⟩
          rw [a.bad (by show E.2.e ≠ 0; rw [h17]; decide)]
          show Out.bad E.2.e E.2.ln = _
          rw [h17, ← b1, g]
        · refine ⟨E.2.ln, ?_, Or.inl (by rw [q.2.2, b2])⟩
          rw [a.bad (by show E.2.e ≠ 0; rw [q.2.1]; exact q.1)]
          show Out.bad E.2.e E.2.ln = _
          rw [q.2.1, b1]
      | ok n2 l2 r2 =>
        rw [e2] at a2
        obtain ⟨rfl, -⟩ := a2
        rcases m2 with ⟨-, n3, s3, hs3, hr3, -, rfl⟩ | ⟨g, -⟩ | f
        · rw [mod_stop _ _ _ _ hr3] at a
          exact a.good hs3
        · cases g
        · exact absurd rfl f.1
    · cases g
    · exact absurd rfl f.1

end Go.Proofs.YtbnmmbjajheedaaGreatDoor

/- A name with atoms behind it: what such a text is parsed to. -/
namespace Go.Proofs.YtbnmmbjajheedaaGreatDoor
open Go.RowKit Go.Lib

def Xs (n : Nat) : List Tok := List.replicate n (tkX, 1) ++ [(tkSemi, 1)]
theorem xs_zero : Xs 0 = [(tkSemi, 1)] := rfl
theorem xs_succ (n : Nat) : Xs (n + 1) = (tkX, 1) :: Xs n := rfl
theorem xs_len (n : Nat) : (Xs n).length = n + 1 := by simp [Xs]
theorem sees_hd (t : Nm) (y : Tok) (r : List Tok) : seesL t (y :: r) = decide ((y.1.k = 5 ∨ y.1.k = 6) ∧ y.1.t = t) := rfl
def endS : St := ⟨[(tkSemi, 1)], 0, 0⟩
theorem xs_sees (n : Nat) {t : Nm} (h : t ≠ [59]) : seesL t (Xs n) = false := by
  cases n with
  | zero => simp only [xs_zero, seesL, tkSemi]; exact decide_eq_false (fun e => h e.2.symm)
  | succ n => simp only [xs_succ, seesL, tkX]; exact decide_eq_false (fun e => by rcases e.1 with e | e <;> cases e)
theorem loop_xs (ll : Int) : ∀ (n fu : Nat) (acc : List Nm), n < fu → loopN ll fu false acc ⟨Xs n, 0, 0⟩ = (acc ++ List.replicate n [120], endS)
  | n, 0, _, h => absurd h (Nat.not_lt_zero _)
  | 0, fu + 1, acc, _ => by
    unfold loopN
    rw [if_neg (by rw [xs_zero]; simp [kindL, tkSemi])]
    simp [xs_zero, endS]
  | n + 1, fu + 1, acc, h => by
    unfold loopN
    rw [if_pos ⟨rfl, Or.inr (by rw [xs_succ]; rfl)⟩, show tokD ll 1 ⟨Xs (n + 1), 0, 0⟩ = ((tkX, 1), ⟨Xs n, 0, 0⟩) from if_pos ⟨rfl, by rw [xs_succ]; rfl⟩]
    simp only
    rw [loop_xs ll n fu _ (by omega)]
    simp [List.replicate_succ, tkX]
theorem names_xs (ll : Int) (n : Nat) : (namesD ll true ⟨Xs n, 0, 0⟩).2.e ≠ 0 ∨ (namesD ll true ⟨Xs n, 0, 0⟩).2 = endS := by
  unfold namesD loopN
  rw [if_pos ⟨rfl, Or.inl rfl⟩]
  cases n with
  | zero =>
    left
    rw [show tokD ll 1 ⟨Xs 0, 0, 0⟩ = (tokO [], ⟨Xs 0, 3, 1⟩) from if_neg (fun e => by cases e.2)]
    simp only [xs_len]
    unfold loopN
    rw [if_neg (fun e => by cases e.1)]
    decide
  | succ n =>
    right
    rw [show tokD ll 1 ⟨Xs (n + 1), 0, 0⟩ = ((tkX, 1), ⟨Xs n, 0, 0⟩) from if_pos ⟨rfl, by rw [xs_succ]; rfl⟩]
    simp only [xs_len]
    rw [loop_xs ll n _ _ (by omega)]
theorem xs_begins : ¬ begins (Xs 0) := by unfold begins; rw [xs_zero]; decide
theorem atoms_xs (ll : Int) (ex : Dp Ex) : ∀ (n fu : Nat) (acc : List Ex), n < fu → atomsD ll ex fu acc ⟨Xs n, 0, 0⟩ = (acc ++ List.replicate n (.leaf 1 [120]), endS)
  | n, 0, _, h => absurd h (Nat.not_lt_zero _)
  | 0, fu + 1, acc, _ => by
    unfold atomsD
    rw [if_neg (fun e => xs_begins e.2)]
    simp [xs_zero, endS]
  | n + 1, fu + 1, acc, h => by
    have hk : kindL (Xs (n + 1)) = 1 := by rw [xs_succ]; rfl
    unfold atomsD
    rw [if_pos ⟨rfl, Or.inl hk⟩, show atomD ll ex ⟨Xs (n + 1), 0, 0⟩ = (.leaf 1 [120], ⟨Xs n, 0, 0⟩) by
      unfold atomD
      rw [if_pos hk, show tokD ll 1 ⟨Xs (n + 1), 0, 0⟩ = ((tkX, 1), ⟨Xs n, 0, 0⟩) from if_pos ⟨rfl, by rw [xs_succ]; rfl⟩]
      rfl]
    simp only
    rw [atoms_xs ll ex n fu _ (by omega)]
    simp [List.replicate_succ]
theorem need_end0 {ll : Int} {t : Nm} (h : t ≠ [59]) : (needD ll t endS).e ≠ 0 := by
  unfold needD
  rw [if_neg (fun e => by have := xs_sees 0 h; rw [xs_zero] at this; rw [show endS.r = [(tkSemi, 1)] from rfl, this] at e; cases e.2)]
  exact bad_e (by decide)
theorem need_or {ll : Int} {t : Nm} (h : t ≠ [59]) {s : St} (hs : s.e ≠ 0 ∨ s = endS) : (needD ll t s).e ≠ 0 := by
  rcases hs with hs | rfl
  · rw [need_dead hs]; exact hs
  · exact need_end0 h
theorem dead_e {α : Type} {d : Dp α} (hd : Dead d) {s : St} (h : s.e ≠ 0) : (d s).2.e ≠ 0 := by rw [(hd s h).1]; exact h
theorem row_xs (ll : Int) (ex : Dp Ex) (n : Nat) : (rowD ll ex ⟨Xs n, 0, 0⟩).2.e ≠ 0 ∨ (rowD ll ex ⟨Xs n, 0, 0⟩).2 = endS := by
  unfold rowD
  simp only
  rw [atoms_xs ll ex n _ _ (by rw [xs_len]; omega)]
  simp only
  split
  · exact Or.inl (bad_e (by decide))
  · exact Or.inr rfl
theorem rows_or {ll : Int} {ex : Dp Ex} {s : St} (h : (rowD ll ex s).2.e ≠ 0 ∨ (rowD ll ex s).2 = endS) : rowsD ll ex s = rowD ll ex s := by
  unfold rowsD
  refine if_neg (fun e => ?_)
  rcases h with h | h
  · exact h e.1
  · rw [h] at e; cases e.2
theorem expr_xs (ll : Int) (k n : Nat) : (exprD ll (k + 1) ⟨Xs n, 0, 0⟩).2.e ≠ 0 ∨ (exprD ll (k + 1) ⟨Xs n, 0, 0⟩).2 = endS := by
  unfold exprD
  rw [if_neg (by simp), if_neg (by rw [xs_sees n (by decide)]; decide), if_neg (by rw [xs_sees n (by decide)]; decide), if_neg (by rw [xs_sees n (by decide)]; decide), rows_or (row_xs ll _ n)]
  exact row_xs ll _ n

/-! ### What stands behind = -/
def atomX (H : Tk) : Ex := if H.k = 3 then .num H.f H.x else .leaf (if H.k = 1 then 1 else if H.k = 2 then 2 else 5) H.t
theorem sees_no {H : Tk} (h5 : H.k ≠ 5) (h6 : H.k ≠ 6) (t : Nm) (r : List Tok) : ¬ seesL t ((H, 1) :: r) = true := by
  simp only [seesL]
  rw [decide_eq_false (fun e => by rcases e.1 with e | e; exact h5 e; exact h6 e)]
  decide
theorem expr_good (ll : Int) (k n : Nat) {H : Tk} (hk : H.k = 1 ∨ H.k = 2 ∨ H.k = 7 ∨ H.k = 3) : exprD ll (k + 1) ⟨(H, 1) :: Xs n, 0, 0⟩ = (rowX H.k (atomX H :: List.replicate n (.leaf 1 [120])), endS) := by
  have h5 : H.k ≠ 5 := by omega
  have h6 : H.k ≠ 6 := by omega
  have hb : begins ((H, 1) :: Xs n) := by
    rcases hk with h | h | h | h
    · exact Or.inl h
    · exact Or.inr (Or.inl h)
    · exact Or.inr (Or.inr (Or.inl h))
    · exact Or.inr (Or.inr (Or.inr (Or.inl h)))
  have ha : ∀ ex, atomD ll ex ⟨(H, 1) :: Xs n, 0, 0⟩ = (atomX H, ⟨Xs n, 0, 0⟩) := fun ex => by
    have ht : ∀ j, H.k = j → tokD ll j ⟨(H, 1) :: Xs n, 0, 0⟩ = ((H, 1), ⟨Xs n, 0, 0⟩) := fun j h => if_pos ⟨rfl, h⟩
    unfold atomD atomX
    rcases hk with h | h | h | h
    · rw [if_pos (show kindL ((H, 1) :: Xs n) = 1 from h), ht 1 h, if_neg (by omega), if_pos h]
    · rw [if_neg (show ¬ kindL ((H, 1) :: Xs n) = 1 from fun e => by have : H.k = 1 := e; omega), if_pos (show kindL ((H, 1) :: Xs n) = 2 from h), ht 2 h, if_neg (by omega), if_neg (by omega), if_pos h]
    · rw [if_neg (show ¬ kindL ((H, 1) :: Xs n) = 1 from fun e => by have : H.k = 1 := e; omega), if_neg (show ¬ kindL ((H, 1) :: Xs n) = 2 from fun e => by have : H.k = 2 := e; omega), if_pos (show kindL ((H, 1) :: Xs n) = 7 from h), ht 7 h, if_neg (by omega), if_neg (by omega), if_neg (by omega)]
    · rw [if_neg (show ¬ kindL ((H, 1) :: Xs n) = 1 from fun e => by have : H.k = 1 := e; omega), if_neg (show ¬ kindL ((H, 1) :: Xs n) = 2 from fun e => by have : H.k = 2 := e; omega), if_neg (show ¬ kindL ((H, 1) :: Xs n) = 7 from fun e => by have : H.k = 7 := e; omega), if_pos (show kindL ((H, 1) :: Xs n) = 3 from h), ht 3 h, if_pos h]
  have hr : ∀ ex, rowD ll ex ⟨(H, 1) :: Xs n, 0, 0⟩ = (rowX H.k (atomX H :: List.replicate n (.leaf 1 [120])), endS) := fun ex => by
    have h1 : atomsD ll ex (((H, 1) :: Xs n : List Tok).length + 1) [] ⟨(H, 1) :: Xs n, 0, 0⟩ = (atomX H :: List.replicate n (.leaf 1 [120]), endS) := by
      conv => lhs; unfold atomsD
      rw [if_pos ⟨rfl, hb⟩, ha]
      simp only
      rw [atoms_xs ll ex n _ _ (by rw [List.length_cons, xs_len]; omega)]
      rfl
    unfold rowD
    simp only
    rw [h1]
    simp only
    rw [if_neg (List.cons_ne_nil _ _)]
    rfl
  unfold exprD
  rw [if_neg (by simp), if_neg (sees_no h5 h6 _ _), if_neg (sees_no h5 h6 _ _), if_neg (sees_no h5 h6 _ _), rows_or (by rw [hr]; exact Or.inr rfl), hr]
theorem some_e {α : Type} {item : Dp α} {s : St} (h : (item s).2.e ≠ 0) : (someD item s).2.e ≠ 0 := by
  unfold someD
  rw [more_dead _ _ h]
  exact h
theorem expr_fails (ll : Int) (k n : Nat) {H : Tk} (hk : H.k = 4 ∨ H.k = 5 ∨ H.k = 6) : (exprD ll (k + 2) ⟨(H, 1) :: Xs n, 0, 0⟩).2.e ≠ 0 := by
  have hx := expr_xs ll k n
  have hd := expr_dead (ll := ll) (k + 1)
  have hn := names_xs ll n
  have hrow : ∀ ex : Dp Ex, (ex ⟨Xs n, 0, 0⟩).2.e ≠ 0 ∨ (ex ⟨Xs n, 0, 0⟩).2 = endS → (rowD ll ex ⟨(H, 1) :: Xs n, 0, 0⟩).2.e ≠ 0 := fun ex hx => by
    unfold rowD
    simp only
    have kk : ∀ j, j = 1 ∨ j = 2 ∨ j = 7 ∨ j = 3 → ¬ kindL ((H, 1) :: Xs n) = j := fun j hj e => by
      have : H.k = j := e
      omega
    by_cases hs : seesL [40] ((H, 1) :: Xs n) = true
    · have h1 : ∃ l s, atomsD ll ex (((H, 1) :: Xs n : List Tok).length + 1) [] ⟨(H, 1) :: Xs n, 0, 0⟩ = (l, s) ∧ s.e ≠ 0 := by
        conv => enter [1, l, 1, s, 1, 1]; unfold atomsD
        rw [if_pos ⟨rfl, Or.inr (Or.inr (Or.inr (Or.inr hs)))⟩]
        have h2 : ((atomD ll ex ⟨(H, 1) :: Xs n, 0, 0⟩).2).e ≠ 0 := by
          unfold atomD
          rw [if_neg (kk 1 (by simp)), if_neg (kk 2 (by simp)), if_neg (kk 7 (by simp)), if_neg (kk 3 (by simp))]
          exact need_or (by decide) hx
        rw [atoms_dead _ _ h2]
        exact ⟨_, _, rfl, h2⟩
      obtain ⟨l, s, h1, h2⟩ := h1
      rw [h1]
      simp only
      split
      · rw [bad_dead h2]; exact h2
      · exact h2
    · have h1 : atomsD ll ex (((H, 1) :: Xs n : List Tok).length + 1) [] ⟨(H, 1) :: Xs n, 0, 0⟩ = ([], ⟨(H, 1) :: Xs n, 0, 0⟩) := by
        conv => lhs; unfold atomsD
        refine if_neg (fun e => ?_)
        rcases e.2 with h | h | h | h | h
        · exact kk 1 (by simp) h
        · exact kk 2 (by simp) h
        · exact kk 7 (by simp) h
        · exact kk 3 (by simp) h
        · exact hs h
      rw [h1]
      simp only
      rw [if_pos trivial]
      exact bad_e (by decide)
  unfold exprD
  rw [if_neg (by simp)]
  split
  · show (letD ll (exprD ll (k + 1)) ⟨Xs n, 0, 0⟩).2.e ≠ 0
    unfold letD
    simp only
    refine dead_e hd ?_
    have hb : ((bindD ll (exprD ll (k + 1))) ⟨Xs n, 0, 0⟩).2.e ≠ 0 := by
      unfold bindD
      simp only
      exact dead_e hd (need_or (by decide) hn)
    rw [need_dead (some_e hb)]
    exact some_e hb
  split
  · show (caseD ll (exprD ll (k + 1)) ⟨Xs n, 0, 0⟩).2.e ≠ 0
    have ho : (ofD ll ((exprD ll (k + 1)) ⟨Xs n, 0, 0⟩).2).e ≠ 0 := by
      unfold ofD
      have h1 := need_or (ll := ll) (t := [111, 102]) (by decide) hx
      rw [need_dead h1]
      exact h1
    unfold caseD
    rw [if_neg (fun e => ho e.1)]
    simp only
    have h2 := dead_e (some_dead (alt_dead (ll := ll) hd)) ho
    rw [need_dead h2]
    exact h2
  split
  · show (lamD ll (exprD ll (k + 1)) ⟨Xs n, 0, 0⟩).2.e ≠ 0
    unfold lamD
    simp only
    exact dead_e hd (need_or (by decide) hn)
  · have h := hrow (exprD ll (k + 1)) hx
    rw [rows_or (Or.inl h)]
    exact h
def rowsT (H : Tk) (n : Nat) : List Tok := (tkF, 1) :: (tkEq, 1) :: (H, 1) :: Xs n
theorem mod_rows (ll : Int) (H : Tk) (n : Nat) : moduleD ll ((rowsT H n).length + 1) [] [] ⟨rowsT H n, 0, 0⟩ = moduleD ll (rowsT H n).length [] [([102], [], (exprD ll 200 ⟨(H, 1) :: Xs n, 0, 0⟩).1)] (needD ll [59] (exprD ll 200 ⟨(H, 1) :: Xs n, 0, 0⟩).2) := by
  rw [mod_step ll _ [] [] rfl (List.cons_ne_nil _ _), if_neg (show ¬ seesL [100, 97, 116, 97] (rowsT H n) = true by unfold rowsT; rw [sees_hd]; decide)]
  have hn : namesD ll true ⟨rowsT H n, 0, 0⟩ = ([[102]], ⟨(tkEq, 1) :: (H, 1) :: Xs n, 0, 0⟩) := by
    unfold namesD loopN
    rw [if_pos ⟨rfl, Or.inl rfl⟩, show tokD ll 1 ⟨rowsT H n, 0, 0⟩ = ((tkF, 1), ⟨(tkEq, 1) :: (H, 1) :: Xs n, 0, 0⟩) from if_pos ⟨rfl, rfl⟩]
    simp only [rowsT, List.length_cons]
    unfold loopN
    rw [if_neg (fun e => by rcases e.2 with h | h <;> cases h)]
    rfl
  have hd : needD ll [61] ⟨(tkEq, 1) :: (H, 1) :: Xs n, 0, 0⟩ = ⟨(H, 1) :: Xs n, 0, 0⟩ := if_pos ⟨rfl, by rw [sees_hd]; decide⟩
  unfold bindD
  simp only
  rw [hn]
  simp only
  rw [hd]
  rfl
theorem rows_pure {H : Tk} {n : Nat} (hv : Tvs (rowsT H n)) (hk : 1 ≤ H.k ∧ H.k ≤ 7) :
    ((H.k = 1 ∨ H.k = 2 ∨ H.k = 7 ∨ H.k = 3) ∧ ∃ l r, parseO (rowsT H n) = .ok ([], [([102], [], rowX H.k (atomX H :: List.replicate n (.leaf 1 [120])))]) l r) ∨ ((H.k = 4 ∨ H.k = 5 ∨ H.k = 6) ∧ ∃ e ln, e ≠ 0 ∧ parseO (rowsT H n) = .bad e ln) := by
  have a := parse_sim hv
  rw [mod_rows] at a
  by_cases g : H.k = 1 ∨ H.k = 2 ∨ H.k = 7 ∨ H.k = 3
  · refine Or.inl ⟨g, ?_⟩
    rw [expr_good _ 199 n g] at a
    simp only at a
    rw [show needD (lastOf 1 (rowsT H n)) [59] endS = ⟨[], 0, 0⟩ from if_pos ⟨rfl, by unfold endS; rw [sees_hd]; decide⟩, mod_stop _ _ _ _ rfl] at a
    exact a.good rfl
  · have g' : H.k = 4 ∨ H.k = 5 ∨ H.k = 6 := by omega
    refine Or.inr ⟨g', ?_⟩
    have h := expr_fails (lastOf 1 (rowsT H n)) 198 n g'
    rw [need_dead h, module_dead _ _ _ h] at a
    exact ⟨_, _, h, a.bad h⟩

end Go.Proofs.YtbnmmbjajheedaaGreatDoor
