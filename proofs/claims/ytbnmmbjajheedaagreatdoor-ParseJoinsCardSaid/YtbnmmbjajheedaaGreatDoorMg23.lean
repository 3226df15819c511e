import Derived.Test.YtbnmmbjajheedaaGreatDoorMg3
import Derived.Test.YtbnmmbjajheedaaGreatDoorMg13
import Derived.Test.YtbnmmbjajheedaaGreatDoorMg14
import Derived.Test.YtbnmmbjajheedaaGreatDoorMg21
namespace Go.Proofs.YtbnmmbjajheedaaGreatDoor
set_option maxHeartbeats 64000000
set_option maxRecDepth 100000
open Go.RowKit Go.Lib
theorem bytes_app8 (A B : List (Tk × Int)) : bytesT (A ++ B) = bytesT A + bytesT B := by simp [bytesT]
theorem BndsAt.one {W : World} {K : Nat → Prop} : ∀ {bs : List Bnd} {xs : List Value}, BndsAt W K bs xs → ∀ u ∈ xs, u.oneCell' = true
 | [], _, .nil => fun u hu => by cases hu
 | _ :: _, _, .cons n ps e bs vp cs xs hp h t => fun u hu => by
  obtain ⟨_, _, _, rfl⟩ := hp.slice
  rcases List.mem_append.1 hu with hu | hu
  ·rcases List.mem_cons.1 hu with rfl | hu
   ·rfl
   ·rcases List.mem_cons.1 hu with rfl | hu
    ·rfl
    ·exact h.one u hu
  ·exact t.one u hu
theorem BndsAt.append {W : World} {K : Nat → Prop} : ∀ {ls bs : List Bnd} {xs ys : List Value}, BndsAt W K ls xs → BndsAt W K bs ys → BndsAt W K (ls ++ bs) (xs ++ ys)
 | [], _, _, _, .nil, h => h
 | _ :: _, bs, _, ys, .cons n ps e ls vp cs xs hp h t, h2 => by
  have r := BndsAt.cons n ps e (ls ++ bs) vp cs (xs ++ ys) hp h (t.append h2)
  simpa [List.append_assoc] using r
theorem ParsedV.shape {lo : Nat} {o : Out Md} {e : Ending} {w : World} (h : ParsedV lo o e w) : ∃ a1 n1 c1 a2 n2 c2 er ln, e = .returned (.tuple #[.agg #[.slice a1 n1 c1, .slice a2 n2 c2], .int .i64 er, .int .i64 ln]) ∧
  ((o = .bad er ln ∧ er ≠ 0) ∨ ∃ md l r xb, o = .ok md l r ∧ er = 0 ∧ n1 = md.1.length ∧ n2 = md.2.length ∧ w.ownsRow lo 67 2 (.slice a1 n1 c1) n1 (declV md.1) ∧ w.ownsRow lo 51 10 (.slice a2 n2 c2) n2 xb ∧ BndsAt w (fun g => lo ≤ g) md.2 xb) := by
 cases o with
 | bad er ln =>
  obtain ⟨h0, rfl⟩ := h
  exact ⟨_, _, _, _, _, _, er, ln, rfl, Or.inl ⟨rfl, h0⟩⟩
 | ok md l r =>
  obtain ⟨vc, vb, xb, rfl, hc, hb, ht⟩ := h
  obtain ⟨a1, c1, rfl, -⟩ := own_shape hc
  obtain ⟨a2, c2, rfl, -⟩ := own_shape hb
  exact ⟨_, _, _, _, _, _, 0, 0, rfl, Or.inr ⟨md, l, r, xb, rfl, rfl, rfl, rfl, hc, hb, ht⟩⟩
def Mv (k : Int) (r : List Tok) : List Tok := r.map fun y => (y.1, y.2 + k)
def Syn (k : Int) (tl : List Tok) (s s' : St) : Prop := s.e = 0 ∧ s'.e = 0 ∧ s'.r = Mv k s.r ++ tl ∧ (s.r ≠ [] ∨ tl = [])
def Ovr (tl : List Tok) (s s' : St) : Prop := (s.e = 17 ∧ (tl = [] → s'.e = 17)) ∨ (s.e = 0 ∧ s.r = [] ∧ tl ≠ [])
def Flt (k : Int) (s s' : St) : Prop := s.e ≠ 0 ∧ s'.e = s.e ∧ s'.ln = s.ln + k
def Rl (k : Int) (tl : List Tok) (s s' : St) : Prop := Syn k tl s s' ∨ Ovr tl s s' ∨ Flt k s s'
def Rsv {α : Type} (k : Int) (tl : List Tok) (x x' : α × St) : Prop := (Syn k tl x.2 x'.2 ∧ x.1 = x'.1) ∨ Ovr tl x.2 x'.2 ∨ Flt k x.2 x'.2
def OvD {α : Type} (d : Dp α) : Prop := ∀ s, (s.e = 17 ∨ s.e = 0 ∧ s.r = []) → ((d s).2.e = 17 ∨ (d s).2.e = 0 ∧ (d s).2.r = [])
theorem ovr_keep {α β : Type} {tl : List Tok} {d : Dp α} {d' : Dp β} (ho : OvD d) (hd : Dead d) (hd' : Dead d') {s s' : St} (h : Ovr tl s s') : Ovr tl (d s).2 (d' s').2 := by
 rcases h with ⟨h1, h2⟩ | ⟨h1, h2, h3⟩
 ·refine Or.inl ⟨(hd s (by rw [h1]; decide)).1.trans h1, fun e => ?_⟩
  have h := h2 e
  exact (hd' s' (by rw [h]; decide)).1.trans h
 ·rcases ho s (Or.inr ⟨h1, h2⟩) with h | ⟨h, h'⟩
  ·exact Or.inl ⟨h, fun e => absurd e h3⟩
  ·exact Or.inr ⟨h, h', h3⟩
theorem flt_keep {α β : Type} {k : Int} {d : Dp α} {d' : Dp β} (hd : Dead d) (hd' : Dead d') {s s' : St} (h : Flt k s s') : Flt k (d s).2 (d' s').2 := by
 obtain ⟨h1, h2, h3⟩ := h
 have a := hd s h1
 have b := hd' s' (by rw [h2]; exact h1)
 exact ⟨by rw [a.1]; exact h1, by rw [b.1, a.1]; exact h2, by rw [b.2, a.2]; exact h3⟩
structure Bis {α : Type} (k : Int) (tl : List Tok) (d d' : Dp α) : Prop where
 go : ∀ s s', Syn k tl s s' → Rsv k tl (d s) (d' s')
 ov : OvD d
 dd : Dead d
 dd' : Dead d'
theorem dead_bind {α β : Type} {d : Dp α} {f : α → Dp β} (h : Dead d) (hf : ∀ a, Dead (f a)) : Dead (fun s => f (d s).1 (d s).2) := fun s hs => by
 have h1 := h s hs
 have h2 := hf (d s).1 (d s).2 (by rw [h1.1]; exact hs)
 exact ⟨h2.1.trans h1.1, h2.2.trans h1.2⟩
theorem Bis.bind {α β : Type} {k : Int} {tl : List Tok} {d d' : Dp α} {f f' : α → Dp β} (h : Bis k tl d d') (hf : ∀ a, Bis k tl (f a) (f' a)) : Bis k tl (fun s => f (d s).1 (d s).2) (fun s => f' (d' s).1 (d' s).2) where
 go := fun s s' hg => by
  rcases h.go s s' hg with ⟨g, e⟩ | o | f
  ·show Rsv k tl (f (d s).1 (d s).2) (f' (d' s').1 (d' s').2)
   rw [← e]
   exact (hf _).go _ _ g
  ·exact Or.inr (Or.inl (ovr_keep (hf _).ov (hf _).dd (hf _).dd' o))
  ·exact Or.inr (Or.inr (flt_keep (hf _).dd (hf _).dd' f))
 ov := fun s hs => (hf _).ov _ (h.ov s hs)
 dd := dead_bind h.dd fun a => (hf a).dd
 dd' := dead_bind h.dd' fun a => (hf a).dd'
theorem dead_pure {α : Type} (a : α) : Dead (fun s : St => (a, s)) := fun _ _ => ⟨rfl, rfl⟩
theorem Bis.pure {α : Type} {k : Int} {tl : List Tok} (a : α) : Bis k tl (fun s => (a, s)) (fun s => (a, s)) where
 go := fun _ _ h => Or.inl ⟨h, rfl⟩
 ov := fun _ h => h
 dd := dead_pure a
 dd' := dead_pure a
theorem Bis.ite {α : Type} {k : Int} {tl : List Tok} {c : St → Prop} [DecidablePred c] {d1 d1' d2 d2' : Dp α} (hc : ∀ s s', Syn k tl s s' → (c s ↔ c s')) (h1 : Bis k tl d1 d1') (h2 : Bis k tl d2 d2') : Bis k tl (fun s => if c s then d1 s else d2 s) (fun s => if c s then d1' s else d2' s) where
 go := fun s s' hg => by
  have h := hc s s' hg
  by_cases g : c s
  ·simp only [if_pos g, if_pos (h.1 g)]; exact h1.go s s' hg
  ·simp only [if_neg g, if_neg (fun e => g (h.2 e))]; exact h2.go s s' hg
 ov := fun s hs => by
  by_cases g : c s
  ·simp only [if_pos g]; exact h1.ov s hs
  ·simp only [if_neg g]; exact h2.ov s hs
 dd := fun s hs => by
  by_cases g : c s
  ·simp only [if_pos g]; exact h1.dd s hs
  ·simp only [if_neg g]; exact h2.dd s hs
 dd' := fun s hs => by
  by_cases g : c s
  ·simp only [if_pos g]; exact h1.dd' s hs
  ·simp only [if_neg g]; exact h2.dd' s hs
theorem Syn.kind {k : Int} {tl : List Tok} {s s' : St} (h : Syn k tl s s') : kindL s'.r = kindL s.r := by
 obtain ⟨-, -, h, h'⟩ := h
 rw [h]
 cases hr : s.r with
 | nil => rw [h'.resolve_left (by rw [hr]; simp)]; rfl
 | cons y r => rfl
theorem Syn.sees {k : Int} {tl : List Tok} {s s' : St} (h : Syn k tl s s') (t : Nm) : seesL t s'.r = seesL t s.r := by
 obtain ⟨-, -, h, h'⟩ := h
 rw [h]
 cases hr : s.r with
 | nil => rw [h'.resolve_left (by rw [hr]; simp)]; rfl
 | cons y r => rfl
theorem Syn.tok0 {k : Int} {tl : List Tok} {s s' : St} (h : Syn k tl s s') : (tokO s'.r).1 = (tokO s.r).1 := by
 obtain ⟨-, -, h, h'⟩ := h
 rw [h]
 cases hr : s.r with
 | nil => rw [h'.resolve_left (by rw [hr]; simp)]; rfl
 | cons y r => rfl
theorem Syn.begins {k : Int} {tl : List Tok} {s s' : St} (h : Syn k tl s s') : begins s.r ↔ begins s'.r := by
 unfold Go.Proofs.YtbnmmbjajheedaaGreatDoor.begins
 rw [h.kind, h.sees]
theorem Syn.starts {k : Int} {tl : List Tok} {s s' : St} (h : Syn k tl s s') : startsL s.r ↔ startsL s'.r := by
 unfold startsL
 rw [h.kind, h.sees, h.sees, h.sees, h.sees]
theorem syn_next {k : Int} {tl : List Tok} {s s' : St} (h : Syn k tl s s') (hr : s.r ≠ []) : Rl k tl s.next s'.next := by
 obtain ⟨h0, h1, h2, h3⟩ := h
 cases hs : s.r with
 | nil => exact absurd hs hr
 | cons y r =>
  rw [hs] at h2
  have e1 : s.next.r = r := by show s.r.tail = r; rw [hs]; rfl
  have e2 : s'.next.r = Mv k r ++ tl := by show s'.r.tail = _; rw [h2]; rfl
  by_cases g : r = [] ∧ tl ≠ []
  ·exact Or.inr (Or.inl (Or.inr ⟨h0, by rw [e1]; exact g.1, g.2⟩))
  ·refine Or.inl ⟨h0, h1, by rw [e1, e2], ?_⟩
   rw [e1]
   by_cases g1 : r = []
   ·exact Or.inr (Classical.byContradiction fun e => g ⟨g1, e⟩)
   ·exact Or.inl g1
theorem syn_bad {k : Int} {tl : List Tok} {s s' : St} (h : Syn k tl s s') {ll ll' er : Int} (he : er ≠ 0) : Rl k tl (s.bad ll er) (s'.bad ll' er) := by
 obtain ⟨h0, h1, h2, h3⟩ := h
 unfold St.bad
 rw [if_neg (by simpa using h0), if_neg (by simpa using h1), h2]
 cases hr : s.r with
 | nil => rw [h3.resolve_left (by rw [hr]; simp)]; exact Or.inr (Or.inl (Or.inl ⟨rfl, fun _ => rfl⟩))
 | cons y r => exact Or.inr (Or.inr ⟨he, rfl, rfl⟩)
theorem bad_ov {ll er : Int} {s : St} (h : s.e = 17 ∨ s.e = 0 ∧ s.r = []) : (s.bad ll er).e = 17 := by
 rcases h with h | ⟨h, h'⟩
 ·rw [bad_dead (by rw [h]; decide)]; exact h
 ·unfold St.bad; rw [if_neg (by simpa using h), h']
def badU (ll er : Int) : Dp Unit := fun s => ((), s.bad ll er)
theorem badU_dead (ll er : Int) : Dead (badU ll er) := fun s h => by unfold badU; simp only; rw [bad_dead h]; exact ⟨rfl, rfl⟩
theorem badU_bis {k : Int} {tl : List Tok} (ll ll' er : Int) (he : er ≠ 0) : Bis k tl (badU ll er) (badU ll' er) where
 go := fun _ _ h => (syn_bad h he).imp (fun h => ⟨h, rfl⟩) id
 ov := fun _ h => Or.inl (bad_ov h)
 dd := badU_dead _ _
 dd' := badU_dead _ _
def needU (ll : Int) (t : Nm) : Dp Unit := fun s => ((), needD ll t s)
theorem needU_dead (ll : Int) (t : Nm) : Dead (needU ll t) := fun s h => by unfold needU; simp only; rw [need_dead h]; exact ⟨rfl, rfl⟩
theorem needU_bis {k : Int} {tl : List Tok} (ll ll' : Int) (t : Nm) : Bis k tl (needU ll t) (needU ll' t) where
 go := fun s s' h => by
  unfold needU needD
  by_cases g : seesL t s.r = true
  ·simp only [if_pos (show s.e = 0 ∧ seesL t s.r = true from ⟨h.1, g⟩), if_pos (show s'.e = 0 ∧ seesL t s'.r = true from ⟨h.2.1, by rw [h.sees]; exact g⟩)]
   exact (syn_next h (sees_ne g)).imp (fun h => ⟨h, rfl⟩) id
  ·simp only [if_neg (show ¬ (s.e = 0 ∧ seesL t s.r = true) from fun e => g e.2), if_neg (show ¬ (s'.e = 0 ∧ seesL t s'.r = true) from fun e => g (by rw [← h.sees]; exact e.2))]
   exact (syn_bad h (by decide)).imp (fun h => ⟨h, rfl⟩) id
 ov := fun s h => by
  unfold needU needD
  simp only
  rw [if_neg]
  ·exact Or.inl (bad_ov h)
  ·rintro ⟨e, g⟩
   rcases h with h | ⟨-, h⟩
   ·rw [h] at e; cases e
   ·exact sees_ne g h
 dd := needU_dead _ _
 dd' := needU_dead _ _
def tkD (ll k : Int) : Dp Tk := fun s => ((tokD ll k s).1.1, (tokD ll k s).2)
theorem tkD_dead (ll k : Int) : Dead (tkD ll k) := fun s h => by unfold tkD; simp only; rw [tok_dead h]; exact ⟨rfl, rfl⟩
theorem tkD_bis {k : Int} {tl : List Tok} (ll ll' j : Int) (hj : j ≠ 0) : Bis k tl (tkD ll j) (tkD ll' j) where
 go := fun s s' h => by
  unfold tkD tokD
  by_cases g : kindL s.r = j
  ·simp only [if_pos (show s.e = 0 ∧ kindL s.r = j from ⟨h.1, g⟩), if_pos (show s'.e = 0 ∧ kindL s'.r = j from ⟨h.2.1, by rw [h.kind]; exact g⟩)]
   exact (syn_next h (kind_ne hj g)).imp (fun e => ⟨e, h.tok0.symm⟩) id
  ·simp only [if_neg (show ¬ (s.e = 0 ∧ kindL s.r = j) from fun e => g e.2), if_neg (show ¬ (s'.e = 0 ∧ kindL s'.r = j) from fun e => g (by rw [← h.kind]; exact e.2))]
   exact (syn_bad h (by decide)).imp (fun h => ⟨h, rfl⟩) id
 ov := fun s h => by
  unfold tkD tokD
  simp only
  rw [if_neg]
  ·exact Or.inl (bad_ov h)
  ·rintro ⟨e, g⟩
   rcases h with h | ⟨-, h⟩
   ·rw [h] at e; cases e
   ·exact kind_ne hj g h
 dd := tkD_dead _ _
 dd' := tkD_dead _ _
def rep {α γ : Type} (c : γ → St → Bool) (d : Dp α) (g : γ → α → γ) : Nat → γ → Dp γ
 | 0, x => fun s => (x, s)
 | n + 1, x => fun s => if c x s = true then rep c d g n (g x (d s).1) (d s).2 else (x, s)
theorem rep_dead {α γ : Type} {c : γ → St → Bool} {d : Dp α} {g : γ → α → γ} (hc : ∀ x s, c x s = true → s.e = 0) (n : Nat) (x : γ) : Dead (rep c d g n x) := fun s h => by
 cases n with
 | zero => exact ⟨rfl, rfl⟩
 | succ n => unfold rep; rw [if_neg (fun e => h (hc _ _ e))]; exact ⟨rfl, rfl⟩
theorem rep_ov {α γ : Type} {c : γ → St → Bool} {d : Dp α} {g : γ → α → γ} (hd : OvD d) : ∀ (n : Nat) (x : γ), OvD (rep c d g n x)
 | 0, _ => fun _ h => h
 | n + 1, x => fun s h => by
  unfold rep
  split
  ·exact rep_ov hd n _ _ (hd s h)
  ·exact h
theorem rep_go {α γ : Type} {k : Int} {tl : List Tok} {c : γ → St → Bool} {d d' : Dp α} {g : γ → α → γ} (j : Nat) (hb : Bis k tl d d') (hc : ∀ x s s', Syn k tl s s' → c x s = c x s') (he : ∀ x s, c x s = true → s.e = 0) (hj : ∀ x s, c x s = true → j < mS s) (hl : ∀ x s, c x s = true → mS (d s).2 < mS s) (hl' : ∀ x s, c x s = true → mS (d' s).2 < mS s) :
  ∀ (n n' : Nat) (x : γ) (s s' : St), Syn k tl s s' → mS s ≤ n + j → mS s' ≤ n' + j → Rsv k tl (rep c d g n x s) (rep c d' g n' x s')
 | 0, n', x, s, s', h, h1, _ => by
  have hf : ¬ c x s = true := fun e => by have := hj x s e; omega
  have hf' : ¬ c x s' = true := fun e => hf (by rw [hc x s s' h]; exact e)
  cases n' with
  | zero => exact Or.inl ⟨h, rfl⟩
  | succ n' =>
   rw [show rep c d' g (n' + 1) x s' = (x, s') from if_neg hf']
   exact Or.inl ⟨h, rfl⟩
 | n + 1, n', x, s, s', h, h1, h2 => by
  by_cases hf : c x s = true
  ·have hf' : c x s' = true := by rw [← hc x s s' h]; exact hf
   have h3 := hl x s hf
   have h4 := hl' x s' hf'
   have h5 := hj x s' hf'
   cases n' with
   | zero => omega
   | succ n' =>
    rw [show rep c d g (n + 1) x s = rep c d g n (g x (d s).1) (d s).2 from if_pos hf, show rep c d' g (n' + 1) x s' = rep c d' g n' (g x (d' s').1) (d' s').2 from if_pos hf']
    rcases hb.go s s' h with ⟨h6, h7⟩ | o | f
    ·rw [← h7]
     exact rep_go j hb hc he hj hl hl' n n' _ _ _ h6 (by omega) (by omega)
    ·exact Or.inr (Or.inl (ovr_keep (rep_ov hb.ov _ _) (rep_dead he _ _) (rep_dead he _ _) o))
    ·exact Or.inr (Or.inr (flt_keep (rep_dead he _ _) (rep_dead he _ _) f))
  ·have hf' : ¬ c x s' = true := fun e => hf (by rw [hc x s s' h]; exact e)
   rw [show rep c d g (n + 1) x s = (x, s) from if_neg hf]
   cases n' with
   | zero => exact Or.inl ⟨h, rfl⟩
   | succ n' =>
    rw [show rep c d' g (n' + 1) x s' = (x, s') from if_neg hf']
    exact Or.inl ⟨h, rfl⟩
theorem rep_bis {α γ : Type} {k : Int} {tl : List Tok} {c : γ → St → Bool} {d d' : Dp α} {g : γ → α → γ} (j : Nat) (F : St → Nat) (hF : ∀ s, mS s ≤ F s + j) (hb : Bis k tl d d') (hc : ∀ x s s', Syn k tl s s' → c x s = c x s') (he : ∀ x s, c x s = true → s.e = 0) (hj : ∀ x s, c x s = true → j < mS s) (hl : ∀ x s, c x s = true → mS (d s).2 < mS s) (hl' : ∀ x s, c x s = true → mS (d' s).2 < mS s) (x : γ) : Bis k tl (fun s => rep c d g (F s) x s) (fun s => rep c d' g (F s) x s) where
 go := fun s s' h => rep_go j hb hc he hj hl hl' _ _ _ _ _ h (hF s) (hF s')
 ov := fun s h => rep_ov hb.ov _ _ s h
 dd := fun s h => rep_dead he _ _ s h
 dd' := fun s h => rep_dead he _ _ s h
def bindB {α β : Type} (d : Dp α) (f : α → Dp β) : Dp β := fun s => f (d s).1 (d s).2
theorem bb {α β : Type} {k : Int} {tl : List Tok} {d d' : Dp α} {f f' : α → Dp β} (h : Bis k tl d d') (hf : ∀ a, Bis k tl (f a) (f' a)) : Bis k tl (bindB d f) (bindB d' f') := h.bind hf
def nextU : Dp Unit := fun s => ((), s.next)
theorem nextU_bis {k : Int} {tl : List Tok} : Bis k tl nextU nextU where
 go := fun s s' h => by
  by_cases hr : s.r = []
  ·obtain ⟨h0, h1, h2, h3⟩ := h
   have ht := h3.resolve_left (fun g => g hr)
   refine Or.inl ⟨⟨h0, h1, ?_, Or.inr ht⟩, rfl⟩
   show s'.r.tail = Mv k s.r.tail ++ tl
   rw [h2, hr, ht]
   rfl
  ·exact (syn_next h hr).imp (fun h => ⟨h, rfl⟩) id
 ov := fun s h => by
  rcases h with h | ⟨h, h'⟩
  ·exact Or.inl h
  ·exact Or.inr ⟨h, by show s.r.tail = []; rw [h']; rfl⟩
 dd := fun _ _ => ⟨rfl, rfl⟩
 dd' := fun _ _ => ⟨rfl, rfl⟩
def kindU : Dp Int := fun s => (kindL s.r, s)
theorem kindU_bis {k : Int} {tl : List Tok} : Bis k tl kindU kindU where
 go := fun _ _ h => Or.inl ⟨h, h.kind.symm⟩
 ov := fun _ h => h
 dd := fun _ _ => ⟨rfl, rfl⟩
 dd' := fun _ _ => ⟨rfl, rfl⟩
theorem Syn.alive {k : Int} {tl : List Tok} {s s' : St} (h : Syn k tl s s') : s.e = 0 ↔ s'.e = 0 := ⟨fun _ => h.2.1, fun _ => h.1⟩
def nmC (x : Bool × List Nm) (s : St) : Bool := decide (s.e = 0 ∧ (x.1 = true ∨ kindL s.r = 1))
theorem loop_rep (ll : Int) : ∀ (n : Nat) (b : Bool) (acc : List Nm) (s : St), loopN ll n b acc s = ((rep nmC (tkD ll 1) (fun x y => (false, x.2 ++ [y.t])) n (b, acc) s).1.2, (rep nmC (tkD ll 1) (fun x y => (false, x.2 ++ [y.t])) n (b, acc) s).2)
 | 0, _, _, _ => rfl
 | n + 1, b, acc, s => by
  unfold loopN rep
  by_cases g : s.e = 0 ∧ (b = true ∨ kindL s.r = 1)
  ·rw [if_pos g, if_pos (show nmC (b, acc) s = true from decide_eq_true g)]
   exact loop_rep ll n _ _ _
  ·rw [if_neg g, if_neg (show ¬ nmC (b, acc) s = true from fun e => g (of_decide_eq_true e))]
theorem tk_lt {ll j : Int} (hj : j ≠ 0) {s : St} (h : s.e = 0) : mS (tkD ll j s).2 < mS s := tok_lt hj h
theorem names_bis {k : Int} {tl : List Tok} (ll ll' : Int) (b : Bool) : Bis k tl (namesD ll b) (namesD ll' b) := by
 have h : ∀ ll, namesD ll b = bindB (fun s => rep nmC (tkD ll 1) (fun x y => (false, x.2 ++ [y.t])) (s.r.length + 2) (b, []) s) (fun x s => (x.2, s)) := fun ll => by
  funext s
  unfold namesD
  rw [loop_rep]
  rfl
 rw [h, h]
 refine bb (rep_bis 0 (fun s => s.r.length + 2) (fun s => by unfold mS; split <;> omega) (tkD_bis ll ll' 1 (by decide)) (fun x s s' h => ?_) (fun x s e => (of_decide_eq_true e).1) (fun x s e => ?_) (fun x s e => tk_lt (by decide) (of_decide_eq_true e).1) (fun x s e => tk_lt (by decide) (of_decide_eq_true e).1) _) (fun x => Bis.pure x.2)
 ·exact decide_eq_decide.2 (by rw [h.kind, h.alive])
 ·rw [mS_alive (of_decide_eq_true e).1]; omega
def moC {α : Type} (_ : List α) (s : St) : Bool := decide (s.e = 0 ∧ seesL [59] s.r = true)
theorem more_rep {α : Type} (item : Dp α) : ∀ (n : Nat) (acc : List α) (s : St), moreD item n acc s = rep moC (bindB nextU fun _ => item) (fun x a => x ++ [a]) n acc s
 | 0, _, _ => rfl
 | n + 1, acc, s => by
  unfold moreD rep
  by_cases g : s.e = 0 ∧ seesL [59] s.r = true
  ·rw [if_pos g, if_pos (show moC acc s = true from decide_eq_true g)]
   exact more_rep item n _ _
  ·rw [if_neg g, if_neg (show ¬ moC acc s = true from fun e => g (of_decide_eq_true e))]
theorem some_bis {α : Type} {k : Int} {tl : List Tok} {item item' : Dp α} (h : Bis k tl item item') (hm : Mn item) (hm' : Mn item') : Bis k tl (someD item) (someD item') := by
 have e : ∀ it : Dp α, someD it = bindB it (fun a s => rep moC (bindB nextU fun _ => it) (fun x a => x ++ [a]) (s.r.length + 1) [a] s) := fun it => by
  funext s
  unfold someD
  rw [more_rep]
  rfl
 rw [e, e]
 have lt : ∀ {it : Dp α}, Mn it → ∀ (x : List α) s, moC x s = true → mS ((bindB nextU fun _ => it) s).2 < mS s := fun hm x s e => Nat.lt_of_le_of_lt (hm _) (next_lt (of_decide_eq_true e).1 (sees_ne (of_decide_eq_true e).2))
 refine bb h fun a => rep_bis 0 (fun s => s.r.length + 1) (fun s => by unfold mS; split <;> omega) (bb nextU_bis fun _ => h) (fun x s s' h => ?_) (fun x s e => (of_decide_eq_true e).1) (fun x s e => ?_) (lt hm) (lt hm') _
 ·exact decide_eq_decide.2 (by rw [h.sees, h.alive])
 ·rw [mS_alive (of_decide_eq_true e).1]; omega
section rules
variable {k : Int} {tl : List Tok} {ll ll' : Int} {ex ex' : Dp Ex}
theorem bind_bis (h : Bis k tl ex ex') : Bis k tl (bindD ll ex) (bindD ll' ex') :=
 show Bis k tl (bindB (namesD ll true) fun ns => bindB (needU ll [61]) fun _ => bindB ex fun x s => ((ns.headD [], ns.tail, x), s)) (bindB (namesD ll' true) fun ns => bindB (needU ll' [61]) fun _ => bindB ex' fun x s => ((ns.headD [], ns.tail, x), s)) from
 bb (names_bis _ _ _) fun _ => bb (needU_bis _ _ _) fun _ => bb h fun _ => Bis.pure _
theorem atom_bis (h : Bis k tl ex ex') : Bis k tl (atomD ll ex) (atomD ll' ex') :=
 Bis.ite (c := fun s => kindL s.r = 1) (fun _ _ h => by rw [h.kind]) (bb (f := fun y s => (Ex.leaf 1 y.t, s)) (f' := fun y s => (Ex.leaf 1 y.t, s)) (tkD_bis ll ll' 1 (by decide)) fun _ => Bis.pure _)
 (Bis.ite (c := fun s => kindL s.r = 2) (fun _ _ h => by rw [h.kind]) (bb (f := fun y s => (Ex.leaf 2 y.t, s)) (f' := fun y s => (Ex.leaf 2 y.t, s)) (tkD_bis ll ll' 2 (by decide)) fun _ => Bis.pure _)
 (Bis.ite (c := fun s => kindL s.r = 7) (fun _ _ h => by rw [h.kind]) (bb (f := fun y s => (Ex.leaf 5 y.t, s)) (f' := fun y s => (Ex.leaf 5 y.t, s)) (tkD_bis ll ll' 7 (by decide)) fun _ => Bis.pure _)
 (Bis.ite (c := fun s => kindL s.r = 3) (fun _ _ h => by rw [h.kind]) (bb (f := fun y s => (Ex.num y.f y.x, s)) (f' := fun y s => (Ex.num y.f y.x, s)) (tkD_bis ll ll' 3 (by decide)) fun _ => Bis.pure _)
 (bb nextU_bis fun _ => bb (f := fun x => bindB (needU ll [41]) fun _ s => (x, s)) (f' := fun x => bindB (needU ll' [41]) fun _ s => (x, s)) h fun _ => bb (needU_bis _ _ _) fun _ => Bis.pure _))))
def atC (_ : List Ex) (s : St) : Bool := decide (s.e = 0 ∧ begins s.r)
theorem atoms_rep (ll : Int) (ex : Dp Ex) : ∀ (n : Nat) (acc : List Ex) (s : St), atomsD ll ex n acc s = rep atC (atomD ll ex) (fun x a => x ++ [a]) n acc s
 | 0, _, _ => rfl
 | n + 1, acc, s => by
  unfold atomsD rep
  by_cases g : s.e = 0 ∧ begins s.r
  ·rw [if_pos g, if_pos (show atC acc s = true from decide_eq_true g)]
   exact atoms_rep ll ex n _ _
  ·rw [if_neg g, if_neg (show ¬ atC acc s = true from fun e => g (of_decide_eq_true e))]
theorem atoms_bis (h : Bis k tl ex ex') (hm : Mn ex) (hm' : Mn ex') : Bis k tl (fun s => atomsD ll ex (s.r.length + 1) [] s) (fun s => atomsD ll' ex' (s.r.length + 1) [] s) := by
 have e : ∀ ll (it : Dp Ex), (fun s => atomsD ll it (s.r.length + 1) [] s) = (fun s => rep atC (atomD ll it) (fun x a => x ++ [a]) (s.r.length + 1) [] s) := fun ll it => by
  funext s
  rw [atoms_rep]
 rw [e, e]
 refine rep_bis 0 (fun s => s.r.length + 1) (fun s => by unfold mS; split <;> omega) (atom_bis h) (fun x s s' h => ?_) (fun x s e => (of_decide_eq_true e).1) (fun x s e => ?_) (fun x s e => atom_lt hm (of_decide_eq_true e).1 (of_decide_eq_true e).2) (fun x s e => atom_lt hm' (of_decide_eq_true e).1 (of_decide_eq_true e).2) _
 ·exact decide_eq_decide.2 (by rw [h.begins, h.alive])
 ·rw [mS_alive (of_decide_eq_true e).1]; omega
theorem row_bis (h : Bis k tl ex ex') (hm : Mn ex) (hm' : Mn ex') : Bis k tl (rowD ll ex) (rowD ll' ex') := by
 have e : ∀ ll (it : Dp Ex), rowD ll it = bindB kindU fun j => bindB (fun s => atomsD ll it (s.r.length + 1) [] s) fun l => (if l = [] then bindB (badU ll 3) fun _ s => (rowX j l, s) else fun s => (rowX j l, s)) := fun ll it => by
  funext s
  unfold rowD bindB kindU
  simp only
  split
  ·rfl
  ·rfl
 rw [e, e]
 refine bb kindU_bis fun j => bb (atoms_bis h hm hm') fun l => ?_
 split
 ·exact bb (badU_bis _ _ _ (by decide)) fun _ => Bis.pure _
 ·exact Bis.pure _
theorem alt_bis (h : Bis k tl ex ex') : Bis k tl (altD ll ex) (altD ll' ex') :=
 Bis.ite (c := fun s => kindL s.r = 2) (fun _ _ h => by rw [h.kind])
  (bb (f := fun y => bindB (namesD ll false) fun ns => bindB (needU ll [45, 62]) fun _ => bindB ex fun x s => ((0, y.t, false, 0, ns, x), s)) (f' := fun y => bindB (namesD ll' false) fun ns => bindB (needU ll' [45, 62]) fun _ => bindB ex' fun x s => ((0, y.t, false, 0, ns, x), s)) (tkD_bis ll ll' 2 (by decide)) fun _ => bb (names_bis _ _ _) fun _ => bb (needU_bis _ _ _) fun _ => bb h fun _ => Bis.pure _)
 (Bis.ite (c := fun s => kindL s.r = 3) (fun _ _ h => by rw [h.kind])
  (bb (f := fun y => bindB (needU ll [45, 62]) fun _ => bindB ex fun x s => ((1, [], y.f, y.x, [], x), s)) (f' := fun y => bindB (needU ll' [45, 62]) fun _ => bindB ex' fun x s => ((1, [], y.f, y.x, [], x), s)) (tkD_bis ll ll' 3 (by decide)) fun _ => bb (needU_bis _ _ _) fun _ => bb h fun _ => Bis.pure _)
  (bb (f := fun y => bindB (needU ll [45, 62]) fun _ => bindB ex fun x s => ((2, y.t, false, 0, [], x), s)) (f' := fun y => bindB (needU ll' [45, 62]) fun _ => bindB ex' fun x s => ((2, y.t, false, 0, [], x), s)) (tkD_bis ll ll' 1 (by decide)) fun _ => bb (needU_bis _ _ _) fun _ => bb h fun _ => Bis.pure _))
theorem let_bis (h : Bis k tl ex ex') (hm : Mn ex) (hm' : Mn ex') : Bis k tl (letD ll ex) (letD ll' ex') :=
 show Bis k tl (bindB (someD (bindD ll ex)) fun bs => bindB (needU ll [105, 110]) fun _ => bindB ex fun x s => (Ex.mk 6 [] false 0 [] [x] bs [], s)) (bindB (someD (bindD ll' ex')) fun bs => bindB (needU ll' [105, 110]) fun _ => bindB ex' fun x s => (Ex.mk 6 [] false 0 [] [x] bs [], s)) from
 bb (some_bis (bind_bis h) (bind_mn hm) (bind_mn hm')) fun _ => bb (needU_bis _ _ _) fun _ => bb h fun _ => Bis.pure _
def ofU (ll : Int) : Dp Unit := fun s => ((), ofD ll s)
theorem ofU_bis : Bis k tl (ofU ll) (ofU ll') :=
 show Bis k tl (bindB (needU ll [111, 102]) fun _ => needU ll [123]) (bindB (needU ll' [111, 102]) fun _ => needU ll' [123]) from bb (needU_bis _ _ _) fun _ => needU_bis _ _ _
theorem case_bis (h : Bis k tl ex ex') (hm : Mn ex) (hm' : Mn ex') : Bis k tl (caseD ll ex) (caseD ll' ex') :=
 show Bis k tl (bindB ex fun x => bindB (ofU ll) fun _ s => if s.e = 0 ∧ seesL [125] s.r = true then (bindB nextU fun _ s => (Ex.mk 7 [] false 0 [] [x] [] [], s)) s else (bindB (someD (altD ll ex)) fun al => bindB (needU ll [125]) fun _ s => (Ex.mk 7 [] false 0 [] [x] [] al, s)) s)
  (bindB ex' fun x => bindB (ofU ll') fun _ s => if s.e = 0 ∧ seesL [125] s.r = true then (bindB nextU fun _ s => (Ex.mk 7 [] false 0 [] [x] [] [], s)) s else (bindB (someD (altD ll' ex')) fun al => bindB (needU ll' [125]) fun _ s => (Ex.mk 7 [] false 0 [] [x] [] al, s)) s) from
 bb h fun _ => bb ofU_bis fun _ => Bis.ite (fun _ _ h => by rw [h.sees, h.alive]) (bb nextU_bis fun _ => Bis.pure _) (bb (some_bis (alt_bis h) (alt_mn hm) (alt_mn hm')) fun _ => bb (needU_bis _ _ _) fun _ => Bis.pure _)
theorem lam_bis (h : Bis k tl ex ex') : Bis k tl (lamD ll ex) (lamD ll' ex') :=
 show Bis k tl (bindB (namesD ll true) fun ns => bindB (needU ll [45, 62]) fun _ => bindB ex fun x s => (Ex.mk 8 [] false 0 ns [x] [] [], s)) (bindB (namesD ll' true) fun ns => bindB (needU ll' [45, 62]) fun _ => bindB ex' fun x s => (Ex.mk 8 [] false 0 ns [x] [] [], s)) from
 bb (names_bis _ _ _) fun _ => bb (needU_bis _ _ _) fun _ => bb h fun _ => Bis.pure _
theorem rows_bis (h : Bis k tl ex ex') (hm : Mn ex) (hm' : Mn ex') : Bis k tl (rowsD ll ex) (rowsD ll' ex') :=
 show Bis k tl (bindB (rowD ll ex) fun x s => if s.e = 0 ∧ kindL s.r = 4 then (bindB (tkD ll 4) fun y => bindB (rowD ll ex) fun z s => (Ex.mk 5 y.t false 0 [] [x, z] [] [], s)) s else (x, s))
  (bindB (rowD ll' ex') fun x s => if s.e = 0 ∧ kindL s.r = 4 then (bindB (tkD ll' 4) fun y => bindB (rowD ll' ex') fun z s => (Ex.mk 5 y.t false 0 [] [x, z] [] [], s)) s else (x, s)) from
 bb (row_bis h hm hm') fun _ => Bis.ite (fun _ _ h => by rw [h.kind, h.alive]) (bb (tkD_bis ll ll' 4 (by decide)) fun _ => bb (row_bis h hm hm') fun _ => Bis.pure _) (Bis.pure _)
end rules
theorem expr_bis {k : Int} {tl : List Tok} (ll ll' : Int) : ∀ n, Bis k tl (exprD ll n) (exprD ll' n)
 | 0 => by
  have e : ∀ ll, exprD ll 0 = fun s => if s.e ≠ 0 then (blankX, s) else if startsL s.r then (bindB (badU ll 12) fun _ => bindB (badU ll 3) fun _ s => (blankX, s)) s else (bindB (badU ll 3) fun _ s => (blankX, s)) s := fun ll => by
   funext s
   unfold exprD
   split
   ·rfl
   ·split <;> rfl
  rw [e, e]
  exact Bis.ite (fun _ _ h => by rw [Ne, Ne, h.alive]) (Bis.pure _) (Bis.ite (fun _ _ h => h.starts) (bb (badU_bis _ _ _ (by decide)) fun _ => bb (badU_bis _ _ _ (by decide)) fun _ => Bis.pure _) (bb (badU_bis _ _ _ (by decide)) fun _ => Bis.pure _))
 | n + 1 => by
  have ih := expr_bis (k := k) (tl := tl) ll ll' n
  have e : ∀ ll, exprD ll (n + 1) = fun s => if s.e ≠ 0 then (blankX, s) else if seesL [108, 101, 116] s.r = true then (bindB nextU fun _ => letD ll (exprD ll n)) s else if seesL [99, 97, 115, 101] s.r = true then (bindB nextU fun _ => caseD ll (exprD ll n)) s else if seesL [92] s.r = true then (bindB nextU fun _ => lamD ll (exprD ll n)) s else rowsD ll (exprD ll n) s := fun ll => rfl
  rw [e, e]
  exact Bis.ite (fun _ _ h => by rw [Ne, Ne, h.alive]) (Bis.pure _) (Bis.ite (fun _ _ h => by rw [h.sees]) (bb nextU_bis fun _ => let_bis ih (expr_mn n) (expr_mn n)) (Bis.ite (fun _ _ h => by rw [h.sees]) (bb nextU_bis fun _ => case_bis ih (expr_mn n) (expr_mn n)) (Bis.ite (fun _ _ h => by rw [h.sees]) (bb nextU_bis fun _ => lam_bis ih) (rows_bis ih (expr_mn n) (expr_mn n)))))
def declU (ll : Int) : Dp Unit := fun s => ((), declD ll s)
theorem declU_bis {k : Int} {tl : List Tok} (ll ll' : Int) : Bis k tl (declU ll) (declU ll') := by
 have e : ∀ ll, declU ll = fun s => if kindL s.r = 3 ∧ ((tokO s.r).1.f = true ∨ 24 < (tokO s.r).1.x) then badU ll 1 s else ((), s) := fun ll => by
  funext s
  unfold declU declD badU
  split <;> rfl
 rw [e, e]
 exact Bis.ite (fun _ _ h => by rw [h.kind, h.tok0]) (badU_bis _ _ _ (by decide)) (Bis.pure _)
def oneD (ll : Int) : Dp (Nm × Int) := bindB (tkD ll 2) fun y => bindB (declU ll) fun _ => bindB (tkD ll 3) fun z s => ((y.t, z.x), s)
theorem oneD_bis {k : Int} {tl : List Tok} (ll ll' : Int) : Bis k tl (oneD ll) (oneD ll') := bb (tkD_bis ll ll' 2 (by decide)) fun _ => bb (declU_bis _ _) fun _ => bb (tkD_bis ll ll' 3 (by decide)) fun _ => Bis.pure _
def deC (_ : List (Nm × Int)) (s : St) : Bool := decide (s.e = 0 ∧ kindL s.r = 2)
theorem decls_rep (ll : Int) : ∀ (n : Nat) (acc : List (Nm × Int)) (s : St), declsD ll n acc s = rep deC (oneD ll) (fun x a => x ++ [a]) n acc s
 | 0, _, _ => rfl
 | n + 1, acc, s => by
  unfold declsD rep
  by_cases g : s.e = 0 ∧ kindL s.r = 2
  ·rw [if_pos g, if_pos (show deC acc s = true from decide_eq_true g)]
   exact decls_rep ll n _ _
  ·rw [if_neg g, if_neg (show ¬ deC acc s = true from fun e => g (of_decide_eq_true e))]
def decsD (ll : Int) : Dp (List (Nm × Int)) := fun s => declsD ll (s.r.length + 1) [] s
theorem decs_bis {k : Int} {tl : List Tok} (ll ll' : Int) : Bis k tl (decsD ll) (decsD ll') := by
 have e : ∀ ll, decsD ll = (fun s => rep deC (oneD ll) (fun x a => x ++ [a]) (s.r.length + 1) [] s) := fun ll => by
  funext s
  unfold decsD
  rw [decls_rep]
 rw [e, e]
 refine rep_bis 0 (fun s => s.r.length + 1) (fun s => by unfold mS; split <;> omega) (oneD_bis ll ll') (fun x s s' h => ?_) (fun x s e => (of_decide_eq_true e).1) (fun x s e => ?_) (fun x s e => decl_lt (of_decide_eq_true e).1) (fun x s e => decl_lt (of_decide_eq_true e).1) _
 ·exact decide_eq_decide.2 (by rw [h.kind, h.alive])
 ·rw [mS_alive (of_decide_eq_true e).1]; omega
def Wk (k : Int) (tl : List Tok) (s s' : St) : Prop := s.e = 0 ∧ s'.e = 0 ∧ s'.r = Mv k s.r ++ tl
theorem need_end {α : Type} {k : Int} {tl : List Tok} {ll ll' : Int} {t : Nm} {x x' : α × St} (h : Rsv k tl x x') : (Wk k tl (needD ll t x.2) (needD ll' t x'.2) ∧ x.1 = x'.1) ∨ ((needD ll t x.2).e = 17 ∧ (tl = [] → (needD ll' t x'.2).e = 17)) ∨ Flt k (needD ll t x.2) (needD ll' t x'.2) := by
 rcases h with ⟨g, e⟩ | o | f
 ·by_cases gs : seesL t x.2.r = true
  ·refine Or.inl ⟨?_, e⟩
   rw [show needD ll t x.2 = x.2.next from if_pos ⟨g.1, gs⟩, show needD ll' t x'.2 = x'.2.next from if_pos ⟨g.2.1, by rw [g.sees]; exact gs⟩]
   refine ⟨g.1, g.2.1, ?_⟩
   show x'.2.r.tail = Mv k x.2.r.tail ++ tl
   rw [g.2.2.1]
   cases hr : x.2.r with
   | nil => rw [hr] at gs; cases gs
   | cons y r => rfl
  ·rw [show needD ll t x.2 = x.2.bad ll 3 from if_neg (fun e => gs e.2), show needD ll' t x'.2 = x'.2.bad ll' 3 from if_neg (fun e => gs (by rw [← g.sees]; exact e.2))]
   rcases syn_bad (ll := ll) (ll' := ll') g (show (3 : Int) ≠ 0 by decide) with h | h | h
   ·exact absurd h.1 (bad_e (by decide))
   ·rcases h with h | h
    ·exact Or.inr (Or.inl h)
    ·exact absurd h.1 (bad_e (by decide))
   ·exact Or.inr (Or.inr h)
 ·rcases o with ⟨h1, h2⟩ | ⟨h1, h2, h3⟩
  ·refine Or.inr (Or.inl ⟨?_, fun e => ?_⟩)
   ·rw [need_dead (by rw [h1]; decide)]; exact h1
   ·have h := h2 e
    rw [need_dead (by rw [h]; decide)]; exact h
  ·refine Or.inr (Or.inl ⟨?_, fun e => absurd e h3⟩)
   rw [show needD ll t x.2 = x.2.bad ll 3 from if_neg (fun e => sees_ne e.2 h2)]
   exact bad_ov (Or.inr ⟨h1, h2⟩)
 ·refine Or.inr (Or.inr ?_)
  rw [need_dead f.1, need_dead (by rw [f.2.1]; exact f.1)]
  exact f
def ModR (k : Int) (tl : List Tok) (ll' : Int) (o o' : Md × St) : Prop :=
 (o.2.e = 0 ∧ ∃ (n : Nat) (s : St), s.e = 0 ∧ s.r = tl ∧ tl.length < n ∧ o' = moduleD ll' n o.1.1 o.1.2 s) ∨ (o.2.e = 17 ∧ (tl = [] → o'.2.e = 17)) ∨ Flt k o.2 o'.2
theorem mod_step (ll : Int) (n : Nat) (cs : List (Nm × Int)) (bs : List Bnd) {s : St} (he : s.e = 0) (hr : s.r ≠ []) : moduleD ll (n + 1) cs bs s = if seesL [100, 97, 116, 97] s.r = true then moduleD ll n (cs ++ (decsD ll s.next).1) bs (needD ll [59] (decsD ll s.next).2) else moduleD ll n cs (bs ++ [(bindD ll (exprD ll 200) s).1]) (needD ll [59] (bindD ll (exprD ll 200) s).2) := by
 conv => lhs; unfold moduleD
 exact if_pos ⟨he, hr⟩
theorem mod_stop (ll : Int) (n : Nat) (cs : List (Nm × Int)) (bs : List Bnd) {s : St} (hr : s.r = []) : moduleD ll n cs bs s = ((cs, bs), s) := by
 cases n with
 | zero => rfl
 | succ n => unfold moduleD; exact if_neg (fun h => h.2 hr)
theorem module_bis {k : Int} {tl : List Tok} {ll ll' : Int} : ∀ (n n' : Nat) (cs : List (Nm × Int)) (bs : List Bnd) (s s' : St), Wk k tl s s' → s.r.length < n → s'.r.length < n' → ModR k tl ll' (moduleD ll n cs bs s) (moduleD ll' n' cs bs s')
 | 0, _, _, _, _, _, _, h, _ => absurd h (Nat.not_lt_zero _)
 | _ + 1, 0, _, _, _, _, _, _, h => absurd h (Nat.not_lt_zero _)
 | n + 1, n' + 1, cs, bs, s, s', h, hn, hn' => by
  by_cases hr : s.r = []
  ·have e : s'.r = tl := by rw [h.2.2, hr]; rfl
   rw [mod_stop ll _ cs bs hr]
   exact Or.inl ⟨h.1, n' + 1, s', h.2.1, e, by rw [← e]; exact hn', rfl⟩
  have hs : Syn k tl s s' := ⟨h.1, h.2.1, h.2.2, Or.inl hr⟩
  have hr' : s'.r ≠ [] := by
   rw [h.2.2]
   cases hq : s.r with
   | nil => exact absurd hq hr
   | cons y r => exact List.cons_ne_nil _ _
  rw [mod_step ll n cs bs h.1 hr, mod_step ll' n' cs bs h.2.1 hr']
  have fin : ∀ (cs cs' : List (Nm × Int)) (bs bs' : List Bnd) (x x' : St), ((Wk k tl x x' ∧ cs = cs' ∧ bs = bs') ∨ (x.e = 17 ∧ (tl = [] → x'.e = 17)) ∨ Flt k x x') → mS x < mS s → mS x' < mS s' → ModR k tl ll' (moduleD ll n cs bs x) (moduleD ll' n' cs' bs' x') := by
   intro cs cs' bs bs' x x' hx h1 h2
   rcases hx with ⟨hw, rfl, rfl⟩ | ⟨h3, h4⟩ | f
   ·rw [mS_alive hw.1, mS_alive h.1] at h1
    rw [mS_alive hw.2.1, mS_alive h.2.1] at h2
    exact module_bis n n' _ _ x x' hw (by omega) (by omega)
   ·refine Or.inr (Or.inl ?_)
    rw [module_dead n cs bs (by rw [h3]; decide)]
    refine ⟨h3, fun e => ?_⟩
    have h5 := h4 e
    rw [module_dead n' cs' bs' (by rw [h5]; decide)]
    exact h5
   ·refine Or.inr (Or.inr ?_)
    rw [module_dead n cs bs f.1, module_dead n' cs' bs' (by rw [f.2.1]; exact f.1)]
    exact f
  by_cases gd : seesL [100, 97, 116, 97] s.r = true
  ·rw [if_pos gd, if_pos (show seesL [100, 97, 116, 97] s'.r = true by rw [hs.sees]; exact gd)]
   have hx : Rsv k tl (decsD ll s.next) (decsD ll' s'.next) := (bb nextU_bis fun _ => decs_bis ll ll').go s s' hs
   have dm : ∀ ll, Mn (decsD ll) := fun ll s => decls_mn ll _ _ s
   refine fin _ _ _ _ _ _ ((need_end hx).imp (fun h => ⟨h.1, by rw [h.2], rfl⟩) id) ?_ ?_
   ·exact Nat.lt_of_le_of_lt (Nt (need_mn _ _ _) (dm _ _)) (next_lt h.1 hr)
   ·exact Nat.lt_of_le_of_lt (Nt (need_mn _ _ _) (dm _ _)) (next_lt h.2.1 hr')
  ·rw [if_neg gd, if_neg (show ¬ seesL [100, 97, 116, 97] s'.r = true by rw [hs.sees]; exact gd)]
   have hx := (bind_bis (ll := ll) (ll' := ll') (expr_bis (k := k) (tl := tl) ll ll' 200)).go s s' hs
   refine fin _ _ _ _ _ _ ((need_end hx).imp (fun h => ⟨h.1, rfl, by rw [h.2]⟩) id) ?_ ?_
   ·exact Nat.lt_of_le_of_lt (need_mn _ _ _) (bind_lt (expr_mn 200) h.1)
   ·exact Nat.lt_of_le_of_lt (need_mn _ _ _) (bind_lt (expr_mn 200) h.2.1)
theorem mv_zero (r : List Tok) : Mv 0 r = r := by
 unfold Mv
 induction r with
 | nil => rfl
 | cons y r ih => rw [List.map_cons, ih, Int.add_zero]
def JoinsSaid (k : Int) (o1 o2 o : Out Md) : Prop :=
 match o1 with
 | .bad e ln => e = 17 ∨ o = .bad e ln
 | .ok m _ _ => match o2 with
  | .bad f on => ∃ line, o = .bad f line ∧ (line = on + k ∨ f = 17)
  | .ok n _ _ => ∃ l r, o = .ok (m.1 ++ n.1, m.2 ++ n.2) l r
theorem Ag.bad {α : Type} {ll : Int} {o : Out α} {d : α × St} (h : Ag ll o d) (he : d.2.e ≠ 0) : o = .bad d.2.e d.2.ln := by
 cases o with
 | ok a l r => exact absurd (by rw [h.1]) he
 | bad e ln => obtain ⟨-, h1, h2⟩ := h; rw [h1, h2]
theorem Ag.good {α : Type} {ll : Int} {o : Out α} {d : α × St} (h : Ag ll o d) (he : d.2.e = 0) : ∃ l r, o = .ok d.1 l r := by
 cases o with
 | ok a l r => exact ⟨l, r, by rw [h.1]⟩
 | bad e ln => exact absurd (h.2.1.symm.trans he) h.1
structure Kb (P : St → Prop) (ll : Int) : Prop where
 nx : ∀ s, P s → P s.next
 bd : ∀ s er, er = 1 ∨ er = 3 ∨ er = 12 → P s → P (s.bad ll er)
def Ke {α : Type} (P : St → Prop) (d : Dp α) : Prop := ∀ s, P s → P (d s).2
section
variable {P : St → Prop} {ll : Int}
theorem need_k (h : Kb P ll) (t : Nm) {s : St} (hs : P s) : P (needD ll t s) := by
 unfold needD
 split
 ·exact h.nx _ hs
 ·exact h.bd _ _ (by simp) hs
theorem tok_k (h : Kb P ll) (k : Int) {s : St} (hs : P s) : P (tokD ll k s).2 := by
 unfold tokD
 split
 ·exact h.nx _ hs
 ·exact h.bd _ _ (by simp) hs
theorem loop_k (h : Kb P ll) : ∀ (n : Nat) (b : Bool) (acc : List Nm) (s : St), P s → P (loopN ll n b acc s).2
 | 0, _, _, _, hs => hs
 | n + 1, b, acc, s, hs => by
  unfold loopN
  split
  ·exact loop_k h n _ _ _ (tok_k h _ hs)
  ·exact hs
theorem names_k (h : Kb P ll) (b : Bool) {s : St} (hs : P s) : P (namesD ll b s).2 := loop_k h _ _ _ _ hs
theorem bind_k (h : Kb P ll) {ex : Dp Ex} (hx : Ke P ex) : Ke P (bindD ll ex) := fun _ hs => hx _ (need_k h _ (names_k h _ hs))
theorem more_k {α : Type} (h : Kb P ll) {item : Dp α} (hx : Ke P item) : ∀ (n : Nat) (acc : List α), Ke P (moreD item n acc)
 | 0, _ => fun _ hs => hs
 | n + 1, acc => fun s hs => by
  unfold moreD
  split
  ·exact more_k h hx n _ _ (hx _ (h.nx _ hs))
  ·exact hs
theorem some_k {α : Type} (h : Kb P ll) {item : Dp α} (hx : Ke P item) : Ke P (someD item) := fun s hs => more_k h hx _ _ _ (hx s hs)
theorem atom_k (h : Kb P ll) {ex : Dp Ex} (hx : Ke P ex) : Ke P (atomD ll ex) := fun s hs => by
 unfold atomD
 split
 ·exact tok_k h _ hs
 split
 ·exact tok_k h _ hs
 split
 ·exact tok_k h _ hs
 split
 ·exact tok_k h _ hs
 ·exact need_k h _ (hx _ (h.nx _ hs))
theorem atoms_k (h : Kb P ll) {ex : Dp Ex} (hx : Ke P ex) : ∀ (n : Nat) (acc : List Ex), Ke P (atomsD ll ex n acc)
 | 0, _ => fun _ hs => hs
 | n + 1, acc => fun s hs => by
  unfold atomsD
  split
  ·exact atoms_k h hx n _ _ (atom_k h hx _ hs)
  ·exact hs
theorem row_k (h : Kb P ll) {ex : Dp Ex} (hx : Ke P ex) : Ke P (rowD ll ex) := fun s hs => by
 unfold rowD
 simp only
 split
 ·exact h.bd _ _ (by simp) (atoms_k h hx _ _ _ hs)
 ·exact atoms_k h hx _ _ _ hs
theorem alt_k (h : Kb P ll) {ex : Dp Ex} (hx : Ke P ex) : Ke P (altD ll ex) := fun s hs => by
 unfold altD
 split
 ·exact hx _ (need_k h _ (names_k h _ (tok_k h _ hs)))
 split
 ·exact hx _ (need_k h _ (tok_k h _ hs))
 ·exact hx _ (need_k h _ (tok_k h _ hs))
theorem let_k (h : Kb P ll) {ex : Dp Ex} (hx : Ke P ex) : Ke P (letD ll ex) := fun _ hs => hx _ (need_k h _ (some_k h (bind_k h hx) _ hs))
theorem of_k (h : Kb P ll) {s : St} (hs : P s) : P (ofD ll s) := need_k h _ (need_k h _ hs)
theorem case_k (h : Kb P ll) {ex : Dp Ex} (hx : Ke P ex) : Ke P (caseD ll ex) := fun s hs => by
 unfold caseD
 split
 ·exact h.nx _ (of_k h (hx _ hs))
 ·exact need_k h _ (some_k h (alt_k h hx) _ (of_k h (hx _ hs)))
theorem lam_k (h : Kb P ll) {ex : Dp Ex} (hx : Ke P ex) : Ke P (lamD ll ex) := fun _ hs => hx _ (need_k h _ (names_k h _ hs))
theorem rows_k (h : Kb P ll) {ex : Dp Ex} (hx : Ke P ex) : Ke P (rowsD ll ex) := fun s hs => by
 unfold rowsD
 split
 ·exact row_k h hx _ (tok_k h _ (row_k h hx _ hs))
 ·exact row_k h hx _ hs
theorem expr_k (h : Kb P ll) : ∀ k, Ke P (exprD ll k)
 | 0 => fun s hs => by
  unfold exprD
  split
  ·exact hs
  ·refine h.bd _ _ (by simp) ?_
   split
   ·exact h.bd _ _ (by simp) hs
   ·exact hs
 | k + 1 => fun s hs => by
  unfold exprD
  split
  ·exact hs
  split
  ·exact let_k h (expr_k h k) _ (h.nx _ hs)
  split
  ·exact case_k h (expr_k h k) _ (h.nx _ hs)
  split
  ·exact lam_k h (expr_k h k) _ (h.nx _ hs)
  ·exact rows_k h (expr_k h k) _ hs
theorem decl_k (h : Kb P ll) {s : St} (hs : P s) : P (declD ll s) := by
 unfold declD
 split
 ·exact h.bd _ _ (by simp) hs
 ·exact hs
theorem decls_k (h : Kb P ll) : ∀ (n : Nat) (acc : List (Nm × Int)), Ke P (declsD ll n acc)
 | 0, _ => fun _ hs => hs
 | n + 1, acc => fun s hs => by
  unfold declsD
  split
  ·exact decls_k h n _ _ (tok_k h _ (decl_k h (tok_k h _ hs)))
  ·exact hs
theorem module_k (h : Kb P ll) : ∀ (n : Nat) (cs : List (Nm × Int)) (bs : List Bnd), Ke P (moduleD ll n cs bs)
 | 0, _, _ => fun _ hs => hs
 | n + 1, cs, bs => fun s hs => by
  unfold moduleD
  split
  ·split
   ·exact module_k h n _ _ _ (need_k h _ (decls_k h _ _ _ (h.nx _ hs)))
   ·exact module_k h n _ _ _ (need_k h _ (bind_k h (expr_k h 200) _ hs))
  ·exact hs
end
def Wi (a b : Int) (s : St) : Prop := (∀ y, y ∈ s.r → a ≤ y.2 ∧ y.2 ≤ b) ∧ a ≤ s.ln ∧ s.ln ≤ b
def Sx (T : List Tok) (s : St) : Prop := ∃ p, T = p ++ s.r
theorem sx_kb (T : List Tok) (ll : Int) : Kb (Sx T) ll where
 nx := fun s ⟨p, h⟩ => by
  cases hr : s.r with
  | nil => exact ⟨p, by rw [h]; simp [St.next, hr]⟩
  | cons y r => exact ⟨p ++ [y], by rw [h]; simp [St.next, hr]⟩
 bd := fun s er _ ⟨p, h⟩ => by
  unfold St.bad
  split
  ·exact ⟨p, h⟩
  ·cases hr : s.r with
   | nil => exact ⟨p, by rw [h, hr]⟩
   | cons y r => exact ⟨p, by rw [h, hr]⟩
def Ol (s : St) : Prop := (∀ y, y ∈ s.r → y.2 = 1) ∧ (s.e ≠ 0 → s.ln = 1)
theorem ol_kb {ll : Int} (h : ll = 1) : Kb Ol ll where
 nx := fun s hs => ⟨fun y hy => hs.1 y (List.mem_of_mem_tail hy), hs.2⟩
 bd := fun s er _ hs => by
  unfold St.bad
  split
  ·exact hs
  ·cases hr : s.r with
   | nil => exact ⟨fun y hy => (by cases hy), fun _ => h⟩
   | cons y r => exact ⟨fun z hz => hs.1 z (by rw [hr]; exact hz), fun _ => hs.1 y (by rw [hr]; exact List.mem_cons_self ..)⟩
theorem last_one : ∀ (T : List Tok), (∀ y, y ∈ T → y.2 = 1) → ∀ l : Int, l = 1 → lastOf l T = 1
 | [], _, _, h => h
 | y :: T, h, _, _ => last_one T (fun z hz => h z (List.mem_cons_of_mem _ hz)) y.2 (h y (List.mem_cons_self ..))
theorem parse_one {T : List Tok} (hv : Tvs T) (hT : ∀ y, y ∈ T → y.2 = 1) {e ln : Int} (h : parseO T = .bad e ln) : ln = 1 := by
 have a := parse_sim hv
 have k := module_k (ol_kb (last_one T hT 1 rfl)) (T.length + 1) [] [] ⟨T, 0, 0⟩ ⟨hT, fun h => absurd rfl h⟩
 rw [h] at a
 rw [← a.2.2]
 exact k.2 (by rw [a.2.1]; exact a.1)
def Semi (T : List Tok) : Prop := T = [] ∨ ∃ p y, T = p ++ [y] ∧ y.1.t = [59]
theorem need_semi {T : List Tok} {ll : Int} {s : St} (hx : Sx T s) (h : (needD ll [59] s).e = 0) : (needD ll [59] s).r ≠ [] ∨ Semi T := by
 by_cases h0 : s.e = 0
 ·by_cases g : seesL [59] s.r = true
  ·have e : needD ll [59] s = s.next := if_pos ⟨h0, g⟩
   rw [e]
   obtain ⟨p, hp⟩ := hx
   cases hr : s.r with
   | nil => exact absurd hr (sees_ne g)
   | cons y r =>
    rw [hr] at hp g
    cases r with
    | nil =>
     refine Or.inr (Or.inr ⟨p, y, hp, ?_⟩)
     simp only [seesL, decide_eq_true_eq] at g
     exact g.2
    | cons z q => exact Or.inl (by simp [St.next, hr])
  ·rw [show needD ll [59] s = s.bad ll 3 from if_neg (fun e => g e.2)] at h
   exact absurd h (bad_e (by decide))
 ·rw [need_dead h0] at h
  exact absurd h h0
theorem mod_semi {T : List Tok} {ll : Int} : ∀ (n : Nat) (cs : List (Nm × Int)) (bs : List Bnd) (s : St), Sx T s → s.e = 0 → s.r.length < n → (s.r ≠ [] ∨ Semi T) → (moduleD ll n cs bs s).2.e = 0 → Semi T
 | 0, _, _, _, _, _, h, _, _ => absurd h (Nat.not_lt_zero _)
 | n + 1, cs, bs, s, hx, h0, hn, hs, he => by
  by_cases hr : s.r = []
  ·exact hs.resolve_left (fun h => h hr)
  rw [mod_step ll n cs bs h0 hr] at he
  have fin : ∀ (cs : List (Nm × Int)) (bs : List Bnd) (x : St), Sx T x → mS x < mS s → (moduleD ll n cs bs (needD ll [59] x)).2.e = 0 → Semi T := by
   intro cs bs x hx hm he
   have hz : (needD ll [59] x).e = 0 := Classical.byContradiction fun g => by rw [module_dead n cs bs g] at he; exact g he
   have hm2 := need_mn ll [59] x
   rw [mS_alive hz] at hm2
   rw [mS_alive h0] at hm
   exact mod_semi n cs bs _ (need_k (sx_kb T ll) _ hx) hz (by omega) (need_semi hx hz) he
  by_cases gd : seesL [100, 97, 116, 97] s.r = true
  ·rw [if_pos gd] at he
   exact fin _ _ _ (decls_k (sx_kb T ll) _ _ _ ((sx_kb T ll).nx _ hx)) (Nat.lt_of_le_of_lt (decls_mn ll _ _ _) (next_lt h0 hr)) he
  ·rw [if_neg gd] at he
   exact fin _ _ _ (bind_k (sx_kb T ll) (expr_k (sx_kb T ll) 200) _ hx) (bind_lt (expr_mn 200) h0) he
theorem parse_semi {T : List Tok} (hv : Tvs T) {md : Md} {l : Int} {r : List Tok} (h : parseO T = .ok md l r) : Semi T := by
 by_cases hT : T = []
 ·exact Or.inl hT
 have a := parse_sim hv
 rw [h] at a
 exact mod_semi (T.length + 1) [] [] ⟨T, 0, 0⟩ ⟨[], rfl⟩ rfl (Nat.lt_succ_self _) (Or.inl hT) (by rw [a.1])
theorem tvs_take {T : List Tok} (hv : Tvs T) (c : Nat) : Tvs (T.take c) := fun x hx => hv x (List.mem_of_mem_take hx)
theorem cuts_pure {T : List Tok} (hv : Tvs T) {md : Md} {l : Int} {r : List Tok} (h : parseO T = .ok md l r) (c : Nat) :
  (∃ m l' r', parseO (T.take c) = .ok m l' r') ∨ ∃ ln, parseO (T.take c) = .bad 17 ln := by
 have a := parse_sim hv
 have b := parse_sim (tvs_take hv c)
 rw [h] at a
 have m := module_bis (k := 0) (tl := T.drop c) (ll := lastOf 1 (T.take c)) (ll' := lastOf 1 T) ((T.take c).length + 1) (T.length + 1) [] [] ⟨T.take c, 0, 0⟩ ⟨T, 0, 0⟩ ⟨rfl, rfl, by rw [mv_zero, List.take_append_drop]⟩ (Nat.lt_succ_self _) (Nat.lt_succ_self _)
 rw [a.1] at m
 rcases m with ⟨h0, -⟩ | ⟨h17, -⟩ | ⟨h1, h2, -⟩
 ·obtain ⟨l', r', e⟩ := b.good h0
  exact Or.inl ⟨_, l', r', e⟩
 ·have e := b.bad (by rw [h17]; decide)
  rw [h17] at e
  exact Or.inr ⟨_, e⟩
 ·exact absurd h2.symm h1
def Cut (T : List Tok) (c : Nat) : Prop :=
 (∃ m l r m' l' r', parseO (T.take c) = .ok m l r ∧ parseO ((T.take c).map fun x => (x.1, 1)) = .ok m' l' r' ∧ (c = 0 ∨ ∃ h : c - 1 < T.length, T[c - 1].1.t = [59])) ∨
 ∃ ln, parseO (T.take c) = .bad 17 ln ∧ parseO ((T.take c).map fun x => (x.1, 1)) = .bad 17 1
theorem cut_any {T : List Tok} (hv : Tvs T) {md : Md} {l : Int} {r : List Tok} (h : parseO T = .ok md l r) (c : Nat) (hc : c < T.length) : Cut T c := by
 have hl : LL Eq (parseO (T.take c)) (parseO ((T.take c).map fun x => (x.1, (1 : Int)))) := parseO_ll (by unfold Lk; rw [List.map_map]; exact List.map_congr_left (fun _ _ => rfl))
 have hv2 : Tvs ((T.take c).map fun x => (x.1, (1 : Int))) := fun x hx => by
  obtain ⟨y, hy, rfl⟩ := List.mem_map.1 hx
  exact tvs_take hv c y hy
 rcases cuts_pure hv h c with ⟨m, l', r', e⟩ | ⟨ln, e⟩
 ·rw [e] at hl
  cases e2 : parseO ((T.take c).map fun x => (x.1, (1 : Int))) with
  | bad a b => rw [e2] at hl; exact absurd hl id
  | ok m2 l2 r2 =>
   refine Or.inl ⟨m, l', r', m2, l2, r2, e, e2, ?_⟩
   rcases parse_semi (tvs_take hv c) e with h0 | ⟨p, y, h0, hy⟩
   ·refine Or.inl ?_
    have := congrArg List.length h0
    rw [List.length_take, List.length_nil] at this
    omega
   ·have hz := congrArg List.length h0
    rw [List.length_take, List.length_append, List.length_singleton] at hz
    refine Or.inr ⟨by omega, ?_⟩
    have hg : (T.take c)[c - 1]? = some y := by
     rw [h0, List.getElem?_append_right (by omega), show c - 1 - p.length = 0 by omega]
     rfl
    rw [List.getElem?_take_of_lt (by omega), List.getElem?_eq_getElem (by omega)] at hg
    rw [Oi hg]
    exact hy
 ·rw [e] at hl
  cases e2 : parseO ((T.take c).map fun x => (x.1, (1 : Int))) with
  | ok m2 l2 r2 => rw [e2] at hl; exact absurd hl id
  | bad a b =>
   rw [e2] at hl
   have ha : (17 : Int) = a := hl
   subst ha
   refine Or.inr ⟨ln, e, ?_⟩
   rw [e2, parse_one hv2 (fun y hy => by obtain ⟨z, hz, rfl⟩ := List.mem_map.1 hy; rfl) e2]
theorem rest_take {w : World} {b : Nat} {a : Option Addr} {c : Nat} {T : List Tok} (h : RestIn w b (.slice a T.length c) T) {n : Nat} (hn : n ≤ T.length) : RestIn w b (.slice a (T.take n).length c) (T.take n) := by
 obtain ⟨a', c', e, h1, h2, h3⟩ := h
 obtain ⟨rfl, -, rfl⟩ := Value.slice.inj e
 refine ⟨a, c, rfl, by rw [List.length_take]; omega, h2, ?_⟩
 rcases h3 with h3 | ⟨g, o, e2, hg, ht⟩
 ·exact Or.inl (by rw [h3]; simp)
 ·refine Or.inr ⟨g, o, e2, hg, fun i h => ?_⟩
  have h' : i < T.length := by rw [List.length_take] at h; omega
  rw [List.getElem_take]
  exact ht i h'
theorem tokens_cut {T : List Tok} (hv : Tvs T) (hx : ∀ y, y ∈ T → 0 ≤ y.1.x) (hn : T.length ≤ 100000) (k : Nat) (hk : k ≤ T.length) (W : World) (a : Option Addr) (c : Nat) (hin : RestIn W W.heap.size (.slice a T.length c) T) :
  Calls Tryz.prog 17 #[.slice a k c] W (fun e w' => (∃ a1 n1 c1 a2 n2 c2 er ln, e = .returned (.tuple #[.agg #[.slice a1 n1 c1, .slice a2 n2 c2], .int .i64 er, .int .i64 ln]) ∧
   ((∃ m l r, parseO (T.take k) = .ok m l r) ∧ er = 0 ∨ (∃ e0 ln0, parseO (T.take k) = .bad e0 ln0) ∧ er ≠ 0)) ∧ Below W.heap.size W w') := by
 have hlen : (T.take k).length = k := by rw [List.length_take]; omega
 rw [show (Value.slice a k c) = Value.slice a (T.take k).length c by rw [hlen]]
 refine (dtokens_any (T.take k) (fun y hy => hx y (List.mem_of_mem_take hy)) (by omega) W a c (rest_take hin hk)).mono ?_
 rintro e w' ⟨⟨vd, vb, rfl, hV⟩, hb⟩
 refine ⟨?_, hb⟩
 have hs := parse_sim (tvs_take hv k)
 generalize moduleD (lastOf 1 (T.take k)) ((T.take k).length + 1) [] [] ⟨T.take k, 0, 0⟩ = O at *
 obtain ⟨ad, nd, cd, rfl⟩ : ∃ a n c, vd = .slice a n c := by
  rcases hV with ⟨_, h, _⟩ | ⟨_, B, _, h1, cs, h2, _⟩
  ·exact ⟨_, _, _, h⟩
  ·obtain ⟨a, c, h, _⟩ := own_shape h1
   exact ⟨_, _, _, h⟩
 obtain ⟨ab, nb, cb, rfl⟩ : ∃ a n c, vb = .slice a n c := by
  rcases hV with ⟨_, _, h⟩ | ⟨_, B, _, h1, cs, h2, _⟩
  ·exact ⟨_, _, _, h⟩
  ·obtain ⟨a, c, h, _⟩ := own_shape h2
   exact ⟨_, _, _, h⟩
 refine ⟨_, _, _, _, _, _, _, _, rfl, ?_⟩
 cases ho : parseO (T.take k) with
 | ok m l r =>
  rw [ho] at hs
  exact Or.inl ⟨⟨m, l, r, rfl⟩, by rw [hs.1]⟩
 | bad e0 ln0 =>
  rw [ho] at hs
  exact Or.inr ⟨⟨e0, ln0, rfl⟩, by rw [hs.2.1]; exact hs.1⟩
theorem cuts_walk (s : ByteArray) (cut : Int) (w : World) (hS : SG w) (hE : EE w) (hV : Shs w) :
  Calls Tryz.prog 6 #[.string s, .int .i64 cut] w fun e w' => e = .returned (.bool true) ∧ Below w.heap.size w w' := by
 have HSE := Hd (Ai hS (Ai hE hV))
 clear hS hE hV
 go_enter Tryz.func6, Tryz.ntmps6
 go_wp2_with fail
 refine (pawake_any w HSE.out.1 HSE.out.2.1 HSE.out.2.2).mono ?_
 rintro e w1 ⟨rfl, hb⟩
 have H1 := Hd (Ai hb (Ai (HSE.out.1.below hb) (Ai (HSE.out.2.1.below hb) (HSE.out.2.2.below hb))))
 clear hb HSE
 by_cases g3 : 3000 < s.size
 ·have f3 : decide ((3000 : Int) < (s.size : Int)) = true := decide_eq_true (by omega)
  go_wp2_with fail
  go_ret
  exact ⟨rfl, H1.out.1⟩
 have f3 : decide ((3000 : Int) < (s.size : Int)) = false := decide_eq_false (by omega)
 have HL1 := Hd (lex_any s (by omega) w1 H1.out.2.1 H1.out.2.2.1)
 go_wp2_with fail
 clear f3
 refine HL1.out.mono ?_
 intro e w2 h2
 obtain ⟨T, a1, c1, er, line, rfl, hown, hb2, hv⟩ := h2.view
 have H2 := Hd (Ai (onB' H1.out.1 hb2) (Ai hown (Ai (H1.out.2.1.below hb2) (Ai (H1.out.2.2.1.below hb2) (H1.out.2.2.2.below hb2)))))
 clear h2 hown hb2 HL1
 have HP1 := Hd (parsed_any s (by omega) w2 H2.out.2.2.1 H2.out.2.2.2.1 H2.out.2.2.2.2)
 go_wp2_with fail
 refine HP1.out.mono ?_
 rintro e w3 ⟨hv1, hb3⟩
 obtain ⟨a3, n3, c3, b3, m3, d3, e3, l3, rfl, hv9⟩ := hv1.shape
 have hx := (Below.refl w3.heap.size w3).alloc Nr (.cells #[.slice a3 n3 c3, .slice b3 m3 d3] 26)
 replace hb3 := onB' hb3 hx
 have H3 := Hd (Ai (onB' H2.out.1 hb3) (Ai (own_below H2.out.2.1 hb3) (Ai (H2.out.2.2.1.below hb3) (Ai (H2.out.2.2.2.1.below hb3) (H2.out.2.2.2.2.below hb3)))))
 clear hx
 rcases hv with ⟨hR, rfl, rfl⟩ | ⟨hR, rfl⟩
 case inr =>
  have h0 := lexL_bad hR
  have g0 : (er != 0) = true := by simpa using h0
  clear hR h0 hv1 hv9 HP1 hb3
  go_wp2_with fail
  go_ret
  exact ⟨rfl, H3.out.1⟩
 rcases hv9 with ⟨hm, h0⟩ | ⟨md, lz, rz, xb, hm, rfl, -⟩
 ·have g0 : (e3 != 0) = true := by simpa using h0
  clear hR h0 hv1 hm HP1 hb3
  go_wp2_with fail
  go_ret
  exact ⟨rfl, H3.out.1⟩
 have hp : parseO T = .ok md lz rz := by
  unfold modL at hm
  rw [hR] at hm
  exact hm
 have HR := Hd (Ai hR hp)
 clear hm hR hp hv1 HP1 hb3
 by_cases gc : cut < 0
 ·go_wp2_with fail
  go_ret
  exact ⟨rfl, H3.out.1⟩
 obtain ⟨c, rfl⟩ : ∃ c : Nat, cut = (c : Int) := ⟨cut.toNat, by omega⟩
 by_cases gl : T.length ≤ c
 ·have gl' : (T.length : Int) ≤ (c : Int) := by omega
  go_wp2_with fail
  go_ret
  exact ⟨rfl, H3.out.1⟩
 have gl' : ¬ (T.length : Int) ≤ (c : Int) := by omega
 clear gc
 have hl := HR.out.1
 obtain ⟨ho, hn, hb⟩ := lexL_own hl
 have hlb := len_bytes T ho
 rw [← size_eq s] at hb
 have HO := Hd (Ai ho (Ai hn (Ai hb hlb)))
 clear ho hn hb hlb hl
 go_wp2_with fail
 generalize (w3.alloc (.cells #[.slice a3 n3 c3, .slice b3 m3 d3] 26)) = W3 at *
 go_loopw [11, 12] (fun s11 s12 wr => ∃ (k : Nat) (B : ByteArray), k ≤ c ∧ s11 = .string B ∧ s12 = .int .i64 k ∧ B.data.toList = spaced (T.take k) ∧ Below W3.heap.size W3 wr) (fun _ s12 _ => c - (RowKit.intOf s12).toNat)
 case atStart => exact ⟨0, ⟨#[]⟩, Nat.zero_le _, rfl, rfl, rfl, Below.refl _ _⟩
 case round =>
  obtain ⟨k, B, hk, rfl, rfl, hB, hbr⟩ := hrel
  have HB := Hd (Ai hB hbr)
  clear hB hbr
  have hBz : B.size ≤ 10000 := by
   have h1 : (spaced (T.take k)).length = bytesT (T.take k) + (T.take k).length := spaced_len _
   have h2 : bytesT T = bytesT (T.take k) + bytesT (T.drop k) := by rw [← bytes_app8, List.take_append_drop]
   have h3 := HO.out.2.2.1
   have h4 := HO.out.2.2.2
   rw [size_eq B, HB.out.1, h1, List.length_take]
   omega
  by_cases hlt : k < c
  ·have hlt' : (k : Int) < (c : Int) := by omega
   have hltT : k < T.length := by omega
   have hltT' : (k : Int) < (T.length : Int) := by omega
   obtain ⟨g1, ea1, ht1⟩ := own_tok H3.out.2.1 hltT
   have hox := HO.out.1 _ (List.getElem_mem hltT)
   have hbx : (T[k]).1.t.length ≤ s.size := Nt (bytes_mem (List.getElem_mem hltT)) HO.out.2.2.1
   have hts : spaced (T.take (k + 1)) = spaced (T.take k) ++ (T[k]).1.t ++ [32] := by rw [← spaced_snoc, List.take_succ_eq_append_getElem hltT]
   subst ea1
   replace ht1 := ht1.later HB.out.2
   generalize T[k] = tk at *
   obtain ⟨⟨kd, tx, ff, xx⟩, ln⟩ := tk
   simp only at hox hbx hts
   obtain ⟨cc, t, htx, -⟩ := hox
   simp only at htx
   obtain ⟨p0, p1, p2, p3, p4⟩ := ht1
   simp only at p0 p1 p2 p3 p4
   have hbt : (⟨tx.toArray⟩ : ByteArray).data.toList = tx := back_list tx
   generalize (⟨tx.toArray⟩ : ByteArray) = bt at *
   have hbz : bt.size = tx.length := by rw [size_eq, hbt]
   have hm1 : B.size + bt.size + 1 ≤ 20000 := by omega
   have HT := Hd (Ai hts hbt)
   have HG := Hd (Ai gl gl')
   clear hts hbt hbz htx hbx p0 p2 p3 p4 gl gl'
   have b0 : (0 : Int) ≤ (k : Int) := by omega
   have ek : IntKind.i64.wrap ((k : Int) + 1) = (k : Int) + 1 := by rw [IntKind.wrap_i64]; have := HO.out.2.1; omega
   go_wp2_with fail
   exact ⟨⟨k + 1, B ++ bt ++ ⟨#[32]⟩, by omega, rfl, by go_num, by rw [cat_list, cat_list, HB.out.1, HT.out.2, HT.out.1], HB.out.2⟩, by simp [RowKit.intOf]; omega⟩
  ·obtain rfl : k = c := by omega
   have hsp : lexL B.data.toList = .good ((T.take k).map fun x => (x.1, 1)) := by
    rw [HB.out.1]
    exact lexL_spaced (fun x hx => HO.out.1 x (List.mem_of_mem_take hx)) (by rw [List.length_take]; have := HO.out.2.1; omega)
   have hm : modL B.data.toList = parseO ((T.take k).map fun x => (x.1, 1)) := by
    unfold modL
    rw [hsp]
   have HM := Hd (Ai hm (cut_any (lexL_tvs HR.out.1) HR.out.2 k (by omega)))
   have HP2 := Hd (parsed_any B (by omega) wr (H3.out.2.2.1.below HB.out.2) (H3.out.2.2.2.1.below HB.out.2) (H3.out.2.2.2.2.below HB.out.2))
   have H4 := Hd (Ai (onB' H3.out.1 HB.out.2) (own_below H3.out.2.1 HB.out.2))
   clear hsp hm HB
   go_wp2_with fail
   refine HP2.out.mono ?_
   rintro e w5 ⟨hv2, hb5⟩
   obtain ⟨a6, n6, c6, b6, m6, d6, e6, l6, rfl, hv9⟩ := hv2.shape
   have hx := (Below.refl w5.heap.size w5).alloc Nr (.cells #[.slice a6 n6 c6, .slice b6 m6 d6] 26)
   replace hb5 := onB' hb5 hx
   have H5 := Hd (Ai (onB' H4.out.1 hb5) (own_below H4.out.2 hb5))
   have HV := Hd (show (modL B.data.toList = .bad e6 l6 ∧ e6 ≠ 0) ∨ ((∃ md l r, modL B.data.toList = .ok md l r) ∧ e6 = 0) by
    rcases hv9 with h | ⟨md, l, r, xb, h1, h2, -⟩
    ·exact Or.inl h
    ·exact Or.inr ⟨⟨md, l, r, h1⟩, h2⟩)
   clear hx hv2 hv9 hb5 HP2
   have hkc : (k : Int) ≤ (c1 : Int) := by
    rcases H5.out.2.2 with ⟨e, e2⟩ | ⟨g, cap, cur, e, -, -, h, -⟩
    ·obtain ⟨-, q1, q2⟩ := Value.slice.inj e; omega
    ·obtain ⟨-, q1, q2⟩ := Value.slice.inj e; omega
   have HTk := Hd (tokens_cut (lexL_tvs HR.out.1) (lexL_x HR.out.1) (by have := HO.out.2.1; omega) k (by omega) (w5.alloc (.cells #[.slice a6 n6 c6, .slice b6 m6 d6] 26)) a1 c1 (RestIn.of_own H5.out.2 Nr))
   go_upto_region 18 with fail
   generalize (w5.alloc (.cells #[.slice a6 n6 c6, .slice b6 m6 d6] 26)) = W5 at *
   refine HTk.out.mono ?_
   rintro e w7 ⟨⟨a8, n8, c8, b8, m8, d8, e8, l8, rfl, ht8⟩, hb7⟩
   have hx := (Below.refl w7.heap.size w7).alloc Nr (.cells #[.slice a8 n8 c8, .slice b8 m8 d8] 26)
   replace hb7 := onB' hb7 hx
   have H7 := Hd (Ai (onB' H5.out.1 hb7) (own_below H5.out.2 hb7))
   have HT8 := Hd ht8
   clear hx hb7 HTk ht8
   rcases HM.out with ⟨hm, ⟨m0, q0, r0, m1, q1, r1, e1, e2, hc⟩ | ⟨ln, e1, e2⟩⟩
   ·have he8 : e8 = 0 := by
     rcases HT8.out with ⟨-, h⟩ | ⟨⟨_, _, h⟩, -⟩
     ·exact h
     ·rw [e1] at h; cases h
    have he6 : e6 = 0 := by
     rcases HV.out with ⟨h, -⟩ | ⟨-, h⟩
     ·rw [hm, e2] at h; cases h
     ·exact h
    subst he8 he6
    clear hm e1 e2
    rcases hc with hc | ⟨hlt2, h59⟩
    ·subst hc
     go_wp2_with fail
     go_ret
     exact ⟨rfl, H7.out.1⟩
    ·by_cases hc : k = 0
     ·subst hc
      clear hlt2 h59
      go_wp2_with fail
      go_ret
      exact ⟨rfl, H7.out.1⟩
     ·obtain ⟨g1, ea1, ht1⟩ := own_tok H7.out.2 hlt2
      subst ea1
      obtain ⟨-, p1, -⟩ := ht1
      rw [h59] at p1
      clear h59
      generalize hj : k - 1 = j at *
      have ek : IntKind.i64.wrap ((k : Int) - 1) = (j : Int) := by rw [IntKind.wrap_i64]; have := HO.out.2.1; omega
      have f0 : ((k : Int) == 0) = false := by simpa using hc
      have b0 : (0 : Int) ≤ (j : Int) := by omega
      have b1 : (j : Int) < (T.length : Int) := by omega
      go_wp2_with fail
      go_ret
      exact ⟨rfl, H7.out.1⟩
   ·have he8 : e8 ≠ 0 := by
     rcases HT8.out with ⟨⟨_, _, _, h⟩, -⟩ | ⟨-, h⟩
     ·rw [e1] at h; cases h
     ·exact h
    obtain ⟨rfl, rfl⟩ : e6 = 17 ∧ l6 = 1 := by
     rcases HV.out with ⟨h, -⟩ | ⟨⟨_, _, _, h⟩, -⟩
     ·rw [hm, e2] at h; cases h; exact ⟨rfl, rfl⟩
     ·rw [hm, e2] at h; cases h
    have f8 : (e8 == 0) = false := by simpa using he8
    clear hm e1 e2
    go_wp2_with fail
    go_ret
    exact ⟨rfl, H7.out.1⟩
end Go.Proofs.YtbnmmbjajheedaaGreatDoor
