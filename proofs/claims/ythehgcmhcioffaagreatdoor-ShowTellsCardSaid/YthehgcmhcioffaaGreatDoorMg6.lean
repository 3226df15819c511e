import Derived.Test.YthehgcmhcioffaaGreatDoorMg2
import Derived.Test.YthehgcmhcioffaaGreatDoorMg3
import Derived.Test.YthehgcmhcioffaaGreatDoorMg5
namespace Go.Proofs.YthehgcmhcioffaaGreatDoor
set_option maxHeartbeats 64000000
set_option maxRecDepth 100000
open Go.RowKit Go.Lib
def lastOf : Int → List Tok → Int
  | l, [] => l
  | _, y :: r => lastOf y.2 r
def Tv (y : Tok) : Prop := ∃ c t, y.1.t = c :: t ∧ TkOk y.1 c
def Tvs (r : List Tok) : Prop := ∀ x, x ∈ r → Tv x
theorem Tvs.tail {y : Tok} {r : List Tok} (h : Tvs (y :: r)) : Tvs r := fun x hx => h x (List.mem_cons_of_mem _ hx)
def AgS {α : Type} (ll : Int) (o : Out α) (s : St) : Prop :=
  match o with
  | .ok _ l r => s = ⟨r, 0, 0⟩ ∧ lastOf l r = ll ∧ Tvs r
  | .bad e ln => e ≠ 0 ∧ s.e = e ∧ s.ln = ln
def Ag {α : Type} (ll : Int) (o : Out α) (d : α × St) : Prop :=
  match o with
  | .ok a l r => d = (a, ⟨r, 0, 0⟩) ∧ lastOf l r = ll ∧ Tvs r
  | .bad e ln => e ≠ 0 ∧ d.2.e = e ∧ d.2.ln = ln
def Sim {α : Type} (ll : Int) (p : Par α) (d : Dp α) : Prop := ∀ last rest, lastOf last rest = ll → Tvs rest → Ag ll (p last rest) (d ⟨rest, 0, 0⟩)
theorem kind_shape {k : Int} (h5 : k ≠ 5) (h6 : k ≠ 6) (rest : List Tok) : kindL rest = k ↔ shapeL rest = (k, []) := by
  cases rest with
  | nil => simp [kindL, shapeL]
  | cons y r =>
    simp only [kindL, shapeL, shapeT]
    split
    · rename_i h
      constructor
      · intro e; rw [e] at h; rcases h with h | h; exact absurd h h5; exact absurd h h6
      · intro e; rw [(Prod.mk.inj e).1] at h; rcases h with h | h; exact absurd h h5; exact absurd h h6
    · simp
theorem kName (rest : List Tok) : kindL rest = 1 ↔ shapeL rest = sName := kind_shape (by decide) (by decide) rest
theorem kCon (rest : List Tok) : kindL rest = 2 ↔ shapeL rest = sCon := kind_shape (by decide) (by decide) rest
theorem kNum (rest : List Tok) : kindL rest = 3 ↔ shapeL rest = sNum := kind_shape (by decide) (by decide) rest
theorem kSign (rest : List Tok) : kindL rest = 4 ↔ shapeL rest = sSign := kind_shape (by decide) (by decide) rest
theorem kBack (rest : List Tok) : kindL rest = 7 ↔ shapeL rest = sBack := kind_shape (by decide) (by decide) rest
theorem sees_word {c : UInt8} {u : Nm} (hc : Sm c) {rest : List Tok} (hv : Tvs rest) : seesL (c :: u) rest = true ↔ shapeL rest = (5, c :: u) := by
  cases rest with
  | nil => simp [seesL, shapeL]
  | cons y r =>
    obtain ⟨c', u', e, ok⟩ := hv y (List.mem_cons_self ..)
    simp only [seesL, shapeL, shapeT, decide_eq_true_eq]
    constructor
    · rintro ⟨hk, ht⟩
      rw [if_pos hk, ht]
      rcases hk with hk | hk
      · rw [hk]
      · rw [e] at ht
        cases ht
        cases ok with
        | name k _ _ _ _ => rw [k] at hk; cases hk
        | word k _ _ _ _ => rw [hk] at k; rcases k with k | k <;> cases k
        | con k _ _ _ => rw [k] at hk; cases hk
        | num k _ => rw [k] at hk; cases hk
        | sign k ns _ _ _ _ _ => exact absurd hc ns
    · intro h
      split at h
      · rename_i hk
        exact ⟨hk, (Prod.mk.inj h).2⟩
      · cases (Prod.mk.inj h).2
theorem sees_sign {c : UInt8} {u : Nm} (hc : ¬ Sm c) {rest : List Tok} (hv : Tvs rest) : seesL (c :: u) rest = true ↔ shapeL rest = (6, c :: u) := by
  cases rest with
  | nil => simp [seesL, shapeL]
  | cons y r =>
    obtain ⟨c', u', e, ok⟩ := hv y (List.mem_cons_self ..)
    simp only [seesL, shapeL, shapeT, decide_eq_true_eq]
    constructor
    · rintro ⟨hk, ht⟩
      rw [if_pos hk, ht]
      rcases hk with hk | hk
      · rw [e] at ht
        cases ht
        cases ok with
        | name k _ _ _ _ => rw [k] at hk; cases hk
        | word k s _ _ _ => exact absurd s hc
        | con k _ _ _ => rw [k] at hk; cases hk
        | num k _ => rw [k] at hk; cases hk
        | sign k ns _ _ _ _ _ => rw [hk] at k; rcases k with k | k <;> cases k
      · rw [hk]
    · intro h
      split at h
      · rename_i hk
        exact ⟨hk, (Prod.mk.inj h).2⟩
      · cases (Prod.mk.inj h).2
theorem refuse_ag {α : Type} {ll er last : Int} {rest : List Tok} (her : er ≠ 0) (hl : lastOf last rest = ll) : AgS ll (refuseO er last rest : Out α) (St.bad ll er ⟨rest, 0, 0⟩) := by
  unfold St.bad
  cases rest with
  | nil => exact ⟨by decide, rfl, hl.symm⟩
  | cons y r => exact ⟨her, rfl, rfl⟩
theorem want_ag {ll last : Int} {rest : List Tok} {sh : Sh} {t : Nm} (h0 : sh.1 ≠ 0) (hs : seesL t rest = true ↔ shapeL rest = sh) (hl : lastOf last rest = ll) (hv : Tvs rest) : AgS ll (wantO sh last rest) (needD ll t ⟨rest, 0, 0⟩) := by
  unfold wantO needD
  by_cases g : shapeL rest = sh
  · rw [if_pos g, if_pos ⟨rfl, hs.2 g⟩]
    obtain ⟨y, r, rfl⟩ := take_of g h0
    exact ⟨rfl, hl, hv.tail⟩
  · rw [if_neg g, if_neg (fun h => g (hs.1 h.2))]
    exact refuse_ag (by decide) hl
theorem AgS.of {α β : Type} {ll : Int} {o : Out α} {s : St} (h : AgS ll o s) {f : α → Int → List Tok → Out β} {d : β × St} (hok : ∀ a l r, o = .ok a l r → s = ⟨r, 0, 0⟩ → lastOf l r = ll → Tvs r → Ag ll (f a l r) d) (hbad : s.e ≠ 0 → d.2.e = s.e ∧ d.2.ln = s.ln) : Ag ll (o.bind f) d := by
  cases o with
  | ok a l r => exact hok a l r rfl h.1 h.2.1 h.2.2
  | bad e ln =>
    obtain ⟨h1, h2, h3⟩ := h
    have := hbad (by rw [h2]; exact h1)
    exact ⟨h1, this.1.trans h2, this.2.trans h3⟩
theorem Ag.st {α : Type} {ll : Int} {o : Out α} {d : α × St} (h : Ag ll o d) : AgS ll o d.2 := by
  cases o with
  | ok a l r => rw [h.1]; exact ⟨rfl, h.2⟩
  | bad e ln => exact h
theorem Ag.of {α β : Type} {ll : Int} {o : Out α} {d0 : α × St} (h : Ag ll o d0) {f : α → Int → List Tok → Out β} {d : β × St} (hok : ∀ a l r, o = .ok a l r → d0 = (a, ⟨r, 0, 0⟩) → lastOf l r = ll → Tvs r → Ag ll (f a l r) d) (hbad : d0.2.e ≠ 0 → d.2.e = d0.2.e ∧ d.2.ln = d0.2.ln) : Ag ll (o.bind f) d := by
  cases o with
  | ok a l r => exact hok a l r rfl h.1 h.2.1 h.2.2
  | bad e ln => exact AgS.of (α := α) (o := .bad e ln) h.st (fun _ _ _ q => by cases q) hbad
theorem Ag.done {α : Type} {ll : Int} {a : α} {l : Int} {r : List Tok} {d : α × St} (hd : d = (a, ⟨r, 0, 0⟩)) (hl : lastOf l r = ll) (hv : Tvs r) : Ag ll (.ok a l r) d := ⟨hd, hl, hv⟩
theorem AgS.ag {α : Type} {ll : Int} {e ln : Int} {s : St} {d : α × St} (h : AgS ll (.bad e ln : Out α) s) (hd : d.2 = s) : Ag ll (.bad e ln) d := by
  obtain ⟨h1, h2, h3⟩ := h
  exact ⟨h1, by rw [hd]; exact h2, by rw [hd]; exact h3⟩
theorem refuse_Ag {α : Type} {ll er last : Int} {rest : List Tok} (her : er ≠ 0) (hl : lastOf last rest = ll) {d : α × St} (hd : d.2 = St.bad ll er ⟨rest, 0, 0⟩) : Ag ll (refuseO er last rest) d := by
  have h := refuse_ag (α := α) her hl
  rw [refuseO_eq] at h ⊢
  exact h.ag hd
theorem tok_ok {ll k : Int} {rest : List Tok} (h0 : k ≠ 0) (hk : kindL rest = k) : ∃ y r, rest = y :: r ∧ tokD ll k ⟨rest, 0, 0⟩ = (y, ⟨r, 0, 0⟩) := by
  cases rest with
  | nil => exact absurd hk.symm h0
  | cons y r => exact ⟨y, r, rfl, by unfold tokD; rw [if_pos ⟨rfl, hk⟩]; rfl⟩
theorem names_acc : ∀ (r : List Tok) (l : Int) (acc : List Nm), namesO l r acc = (acc ++ (namesO l r []).1, (namesO l r []).2)
  | [], l, acc => by simp [namesO]
  | y :: r, l, acc => by
    unfold namesO
    split
    · rw [names_acc r y.2 (acc ++ [y.1.t]), names_acc r y.2 ([] ++ [y.1.t])]
      simp
    · simp
theorem names_ag (ll : Int) : ∀ (r : List Tok) (l : Int) (acc : List Nm) (n : Nat), r.length < n → lastOf l r = ll → Tvs r →
    loopN ll n false acc ⟨r, 0, 0⟩ = ((namesO l r acc).1, ⟨(namesO l r acc).2.2, 0, 0⟩) ∧ lastOf (namesO l r acc).2.1 (namesO l r acc).2.2 = ll ∧ Tvs (namesO l r acc).2.2
  | [], l, acc, n + 1, hn, hl, hv => by
    refine ⟨?_, hl, hv⟩
    unfold loopN
    rw [if_neg (by rintro ⟨-, h | h⟩ <;> cases h)]
    rfl
  | y :: r, l, acc, n + 1, hn, hl, hv => by
    by_cases g : kindL (y :: r) = 1
    · have gs : shapeT y.1 = sName := (kName (y :: r)).1 g
      obtain ⟨y', r', e, ht⟩ := tok_ok (ll := ll) (k := 1) (by decide) g
      cases e
      unfold loopN namesO
      rw [if_pos ⟨rfl, Or.inr g⟩, ht, if_pos gs]
      exact names_ag ll r y.2 _ n (by simp at hn; omega) hl hv.tail
    · have gs : ¬ shapeT y.1 = sName := fun h => g ((kName _).2 h)
      unfold loopN namesO
      rw [if_neg (by rintro ⟨-, h | h⟩; cases h; exact g h), if_neg gs]
      exact ⟨rfl, hl, hv⟩
theorem names1_ok {ll : Int} {y : Tok} {r : List Tok} (hk : kindL (y :: r) = 1) (hl : lastOf y.2 r = ll) (hv : Tvs r) :
    namesD ll true ⟨y :: r, 0, 0⟩ = (y.1.t :: (namesO y.2 r []).1, ⟨(namesO y.2 r []).2.2, 0, 0⟩) ∧ lastOf (namesO y.2 r []).2.1 (namesO y.2 r []).2.2 = ll ∧ Tvs (namesO y.2 r []).2.2 := by
  obtain ⟨y', r', e, ht⟩ := tok_ok (ll := ll) (k := 1) (by decide) hk
  cases e
  have h := names_ag ll r y.2 [y.1.t] (r.length + 2) (by omega) hl hv
  rw [names_acc] at h
  unfold namesD
  rw [show (y :: r).length + 2 = (r.length + 2) + 1 from by simp]
  unfold loopN
  rw [if_pos ⟨rfl, Or.inl rfl⟩, ht]
  exact h
theorem names1_bad {ll : Int} {rest : List Tok} (hk : kindL rest ≠ 1) : namesD ll true ⟨rest, 0, 0⟩ = ([[]], St.bad ll 3 ⟨rest, 0, 0⟩) := by
  have ht : tokD ll 1 ⟨rest, 0, 0⟩ = (tokO [], St.bad ll 3 ⟨rest, 0, 0⟩) := by unfold tokD; rw [if_neg (fun h => hk h.2)]
  have hb : (St.bad ll 3 ⟨rest, 0, 0⟩).e ≠ 0 := by unfold St.bad; cases rest <;> simp
  unfold namesD loopN
  rw [if_pos ⟨rfl, Or.inl rfl⟩, ht]
  unfold loopN
  rw [if_neg (fun h => hb h.1)]
  rfl
theorem names0_ok {ll l : Int} {r : List Tok} (hl : lastOf l r = ll) (hv : Tvs r) :
    namesD ll false ⟨r, 0, 0⟩ = ((namesO l r []).1, ⟨(namesO l r []).2.2, 0, 0⟩) ∧ lastOf (namesO l r []).2.1 (namesO l r []).2.2 = ll ∧ Tvs (namesO l r []).2.2 :=
  names_ag ll r l [] (r.length + 2) (by omega) hl hv
theorem bad_ne0 {ll er : Int} {rest : List Tok} (her : er ≠ 0) : (St.bad ll er ⟨rest, 0, 0⟩).e ≠ 0 := by unfold St.bad; cases rest <;> simp [her]
theorem want_name {last : Int} {rest : List Tok} : wantO sName last rest = if kindL rest = 1 then takeO last rest else refuseO 3 last rest := by
  unfold wantO
  by_cases g : kindL rest = 1
  · rw [if_pos g, if_pos ((kName _).1 g)]
  · rw [if_neg g, if_neg (fun h => g ((kName _).2 h))]
theorem bind_sim {ll : Int} {ex : Par Ex} {dx : Dp Ex} (hx : Sim ll ex dx) (hd : Dead dx) : Sim ll (bindO ex) (bindD ll dx) := by
  intro last rest hl hv
  unfold bindO bindD
  rw [want_name]
  by_cases g : kindL rest = 1
  · rw [if_pos g]
    obtain ⟨y, r, rfl, -⟩ := tok_ok (ll := ll) (k := 1) (by decide) g
    obtain ⟨e1, e2, e3⟩ := names1_ok (ll := ll) g hl hv.tail
    rw [e1]
    simp only [takeO, Out.bind, List.headD_cons, List.tail_cons]
    refine (want_ag (sh := sEq) (by decide) (sees_sign (by unfold Sm; decide) e3) e2 e3).of (fun a l r ho hs hl hv => ?_) (fun he => hd _ he)
    rw [hs]
    refine (hx l r hl hv).of (fun b l2 r2 ho2 hs2 hl2 hv2 => ?_) (fun he => ⟨rfl, rfl⟩)
    rw [hs2]
    exact .done rfl hl2 hv2
  · rw [if_neg g, names1_bad g, refuseO_eq]
    have hb := bad_ne0 (ll := ll) (er := 3) (rest := rest) (by decide)
    rw [need_dead hb]
    have h := refuse_ag (α := Tok) (ll := ll) (er := 3) (by decide) hl
    rw [refuseO_eq] at h
    obtain ⟨h1, h2, h3⟩ := h
    obtain ⟨d1, d2⟩ := hd _ hb
    exact ⟨h1, d1.trans h2, d2.trans h3⟩
theorem more_sim {α : Type} {ll : Int} {item : Par α} {d : Dp α} (hi : Sim ll item d) (hd : Dead d) : ∀ (n : Nat) (acc : List α), Sim ll (moreO item n acc) (moreD d n acc)
  | 0, acc => fun last rest hl hv => .done rfl hl hv
  | n + 1, acc => fun last rest hl hv => by
    have hs : seesL [59] rest = true ↔ shapeL rest = sSemi := sees_sign (by unfold Sm; decide) hv
    unfold moreO moreD
    by_cases g : shapeL rest = sSemi
    · rw [if_pos g, if_pos ⟨rfl, hs.2 g⟩]
      obtain ⟨y, q, rfl⟩ := take_of g (by decide)
      simp only [takeO, Out.bind]
      rw [show St.next ⟨y :: q, 0, 0⟩ = ⟨q, 0, 0⟩ from rfl]
      refine (hi y.2 q hl hv.tail).of (fun a l r ho hs hl hv => ?_) (fun he => by rw [more_dead _ _ he]; exact ⟨rfl, rfl⟩)
      rw [hs]
      exact more_sim hi hd n _ l r hl hv
    · rw [if_neg g, if_neg (fun h => g (hs.1 h.2))]
      exact .done rfl hl hv
theorem some_sim {α : Type} {ll : Int} {item : Par α} {d : Dp α} (hi : Sim ll item d) (hd : Dead d) : Sim ll (someO item) (someD d) := by
  intro last rest hl hv
  unfold someO someD
  refine (hi last rest hl hv).of (fun a l r ho hs hl hv => ?_) (fun he => by rw [more_dead _ _ he]; exact ⟨rfl, rfl⟩)
  rw [hs]
  exact more_sim hi hd _ _ l r hl hv
def Ntx (r : List Tok) : Prop := ∀ y, y ∈ r → NmOk y.1.t
theorem Ntx.of {r : List Tok} (h : Tvs r) (hb : bytesT r ≤ 100000) : Ntx r := fun y hy => by
  have hm := bytes_mem hy
  refine ⟨?_, by omega⟩
  obtain ⟨c, t, e, -⟩ := h y hy
  rw [e]
  exact List.cons_ne_nil _ _
theorem Ntx.tail {y : Tok} {r : List Tok} (h : Ntx (y :: r)) : Ntx r := fun z hz => h z (List.mem_cons_of_mem _ hz)
def OkP {α : Type} (Q : α → Prop) (o : Out α) : Prop :=
  match o with
  | .ok a _ r => Q a ∧ Ntx r
  | .bad _ _ => True
def OkR {α : Type} (Q : α → Prop) (p : Par α) : Prop := ∀ l r, Ntx r → OkP Q (p l r)
theorem OkP.bind {α β : Type} {Q : α → Prop} {S : β → Prop} {o : Out α} {f : α → Int → List Tok → Out β} (h : OkP Q o) (hf : ∀ a l r, Q a → Ntx r → OkP S (f a l r)) : OkP S (o.bind f) := by
  cases o with
  | ok a l r => exact hf a l r h.1 h.2
  | bad e l => trivial
abbrev Tx (y : Tok) : Prop := NmOk y.1.t
theorem refuse_w {α : Type} (Q : α → Prop) (e : Int) : OkR Q (refuseO e) := by
  intro l r h
  cases r <;> trivial
theorem take_w : OkR Tx takeO := by
  intro l r h
  cases r with
  | nil => trivial
  | cons y r => exact ⟨h y (List.mem_cons_self ..), h.tail⟩
theorem want_w (s : Sh) : OkR Tx (wantO s) := by
  intro l r h
  unfold wantO
  split
  · exact take_w _ _ h
  · exact refuse_w _ _ _ _ h
theorem names_w : ∀ (r : List Tok) (l : Int) (acc : List Nm), Ntx r → Nms acc → Nms (namesO l r acc).1 ∧ Ntx (namesO l r acc).2.2
  | [], _, _, h, ha => ⟨ha, h⟩
  | x :: r, l, acc, h, ha => by
    unfold namesO
    split
    · refine names_w r x.2 _ h.tail fun n hn => ?_
      rcases List.mem_append.1 hn with hn | hn
      · exact ha n hn
      · rw [List.mem_singleton.1 hn]; exact h x (List.mem_cons_self ..)
    · exact ⟨ha, h⟩
theorem nms_nil : Nms [] := fun _ h => by cases h
abbrev wB (b : Bnd) : Prop := NmOk b.1 ∧ Nms b.2.1 ∧ wfE b.2.2
abbrev wA (a : Alt) : Prop := (a.1 = 0 ∨ a.1 = 2 → NmOk a.2.1) ∧ (Nms a.2.2.2.2.1 ∧ (a.1 ≠ 0 → a.2.2.2.2.1 = [])) ∧ wfE a.2.2.2.2.2
theorem wfBs_of : ∀ {l : List Bnd}, (∀ b, b ∈ l → wB b) → wfBs l
  | [], _ => by unfold wfBs; trivial
  | (n, ps, e) :: r, h => by
    unfold wfBs
    exact ⟨h _ (List.mem_cons_self ..), wfBs_of fun b hb => h b (List.mem_cons_of_mem _ hb)⟩
theorem wfAs_of : ∀ {l : List Alt}, (∀ b, b ∈ l → wA b) → wfAs l
  | [], _ => by unfold wfAs; trivial
  | (k, n, f, x, ns, e) :: r, h => by
    unfold wfAs
    exact ⟨h _ (List.mem_cons_self ..), wfAs_of fun b hb => h b (List.mem_cons_of_mem _ hb)⟩
theorem wfEs_of : ∀ {l : List Ex}, (∀ b, b ∈ l → wfE b) → wfEs l
  | [], _ => by unfold wfEs; trivial
  | e :: r, h => by
    unfold wfEs
    exact ⟨h _ (List.mem_cons_self ..), wfEs_of fun b hb => h b (List.mem_cons_of_mem _ hb)⟩
theorem wfE_mk {k : Int} {n : Nm} {f : Bool} {x : Int} {ps : List Nm} {ks : List Ex} {bs : List Bnd} {al : List Alt} (h1 : k = 1 → ks = []) (h2 : k ≠ 7 → al = []) (h3 : k = 1 ∨ k = 2 ∨ k = 5 → NmOk n) (h4 : Nms ps) (h5 : ∀ e, e ∈ ks → wfE e) (h6 : ∀ b, b ∈ bs → wB b) (h7 : ∀ a, a ∈ al → wA a) (h8 : k ≠ 6 → bs = []) (h9 : k ≠ 8 → ps = [] := by exact fun _ => rfl) : wfE (.mk k n f x ps ks bs al) := by
  unfold wfE
  exact ⟨h1, h2, h3, h4, wfEs_of h5, wfBs_of h6, wfAs_of h7, h8, h9⟩
theorem leaf_w {k : Int} {n : Nm} (h : NmOk n) : wfE (.leaf k n) := wfE_mk (fun _ => rfl) (fun _ => rfl) (fun _ => h) nms_nil (fun _ h => by cases h) (fun _ h => by cases h) (fun _ h => by cases h) (fun _ => rfl)
theorem one_w {e : Ex} (h : wfE e) : ∀ x, x ∈ [e] → wfE x := fun x hx => by rw [List.mem_singleton.1 hx]; exact h
theorem bindO_w {ex : Par Ex} (hx : OkR wfE ex) : OkR wB (bindO ex) := by
  intro l r h
  unfold bindO
  refine (want_w _ _ _ h).bind fun a l r e h => ?_
  have hn := names_w r l [] h nms_nil
  refine (want_w _ _ _ hn.2).bind fun b l2 r2 _ h => ?_
  refine (hx _ _ h).bind fun c l3 r3 e3 h => ?_
  exact ⟨⟨e, hn.1, e3⟩, h⟩
theorem moreO_w {α : Type} {Q : α → Prop} {item : Par α} (hx : OkR Q item) : ∀ n (acc : List α), (∀ a, a ∈ acc → Q a) → OkR (fun l => ∀ a, a ∈ l → Q a) (moreO item n acc)
  | 0, acc, ha => fun _ _ h => ⟨ha, h⟩
  | n + 1, acc, ha => by
    intro l r h
    unfold moreO
    split
    · refine (take_w _ _ h).bind fun a l r e h => ?_
      refine (hx _ _ h).bind fun c l3 r3 e3 h => ?_
      refine moreO_w hx n _ (fun b hb => ?_) _ _ h
      rcases List.mem_append.1 hb with hb | hb
      · exact ha b hb
      · rw [List.mem_singleton.1 hb]; exact e3
    · exact ⟨ha, h⟩
theorem someO_w {α : Type} {Q : α → Prop} {item : Par α} (hx : OkR Q item) : OkR (fun l => ∀ a, a ∈ l → Q a) (someO item) := by
  intro l r h
  unfold someO
  refine (hx _ _ h).bind fun c l3 r3 e3 h => ?_
  exact moreO_w hx _ _ (fun b hb => by rw [List.mem_singleton.1 hb]; exact e3) _ _ h
theorem innerO_w {ex : Par Ex} (hx : OkR wfE ex) : OkR wfE (innerO ex) := by
  intro l r h
  unfold innerO
  refine (want_w _ _ _ h).bind fun a l r e h => ?_
  refine (hx _ _ h).bind fun c l3 r3 e3 h => ?_
  refine (want_w _ _ _ h).bind fun a l r e h => ?_
  exact ⟨e3, h⟩
def AtW (r : List Tok) (a : Ex) : Prop := wfE a ∧ (shapeL r = sCon ∨ shapeL r = sBack → ∃ k n, (k = 2 ∨ k = 5) ∧ NmOk n ∧ a = .leaf k n)
theorem atomO_w {ex : Par Ex} (hx : OkR wfE ex) (l : Int) (r : List Tok) (h : Ntx r) : OkP (AtW r) (atomO ex l r) := by
  unfold atomO
  split
  · rename_i g
    exact (take_w _ _ h).bind fun a l r e h => ⟨⟨leaf_w e, fun q => by rw [g] at q; rcases q with q | q <;> cases q⟩, h⟩
  split
  · exact (take_w _ _ h).bind fun a l r e h => ⟨⟨leaf_w e, fun _ => ⟨2, _, Or.inl rfl, e, rfl⟩⟩, h⟩
  split
  · rename_i g
    exact (take_w _ _ h).bind fun a l r e h => ⟨⟨wfE_mk (fun _ => rfl) (fun _ => rfl) (fun q => by rcases q with q | q | q <;> cases q) nms_nil (fun _ h => by cases h) (fun _ h => by cases h) (fun _ h => by cases h) (fun _ => rfl), fun q => by rw [g] at q; rcases q with q | q <;> cases q⟩, h⟩
  split
  · exact (take_w _ _ h).bind fun a l r e h => ⟨⟨leaf_w e, fun _ => ⟨5, _, Or.inr rfl, e, rfl⟩⟩, h⟩
  split
  · rename_i g
    have hi := innerO_w hx l r h
    cases ho : innerO ex l r with
    | bad e l => trivial
    | ok a l2 r2 =>
      rw [ho] at hi
      exact ⟨⟨hi.1, fun q => by rw [g] at q; rcases q with q | q <;> cases q⟩, hi.2⟩
  · exact refuse_w _ _ _ _ h
theorem atomO_w' {ex : Par Ex} (hx : OkR wfE ex) : OkR wfE (atomO ex) := by
  intro l r h
  have ha := atomO_w hx l r h
  cases ho : atomO ex l r with
  | bad e l => trivial
  | ok a l2 r2 =>
    rw [ho] at ha
    exact ⟨ha.1.1, ha.2⟩
theorem atomsO_w {ex : Par Ex} (hx : OkR wfE ex) : ∀ n (acc : List Ex), (∀ a, a ∈ acc → wfE a) → OkR (fun l => ∀ a, a ∈ l → wfE a) (atomsO ex n acc)
  | 0, acc, ha => fun _ _ h => ⟨ha, h⟩
  | n + 1, acc, ha => by
    intro l r h
    unfold atomsO
    split
    · refine (atomO_w' hx _ _ h).bind fun c l3 r3 e3 h => ?_
      refine atomsO_w hx n _ (fun b hb => ?_) _ _ h
      rcases List.mem_append.1 hb with hb | hb
      · exact ha b hb
      · rw [List.mem_singleton.1 hb]; exact e3
    · exact ⟨ha, h⟩
theorem rowO_w {ex : Par Ex} (hx : OkR wfE ex) : OkR wfE (rowO ex) := by
  intro l r h
  unfold rowO
  refine (atomO_w hx _ _ h).bind fun c l3 r3 e3 h3 => ?_
  refine (atomsO_w hx _ [] (fun _ h => by cases h) _ _ h3).bind fun d l4 r4 e4 h4 => ?_
  refine ⟨?_, h4⟩
  unfold rowE
  split
  · rename_i g
    obtain ⟨k, n, hk, hn, rfl⟩ := e3.2 (of_decide_eq_true g)
    exact wfE_mk (fun q => by omega) (fun _ => rfl) (fun _ => hn) nms_nil e4 (fun _ h => by cases h) (fun _ h => by cases h) (fun _ => rfl)
  split
  · exact e3.1
  · refine wfE_mk (fun q => by cases q) (fun _ => rfl) (fun q => by rcases q with q | q | q <;> cases q) nms_nil (fun e he => ?_) (fun _ h => by cases h) (fun _ h => by cases h) (fun _ => rfl)
    rcases List.mem_cons.1 he with rfl | he
    · exact e3.1
    · exact e4 e he
theorem rowsO_w {ex : Par Ex} (hx : OkR wfE ex) : OkR wfE (rowsO ex) := by
  intro l r h
  unfold rowsO
  refine (rowO_w hx _ _ h).bind fun c l3 r3 e3 h => ?_
  split
  · refine (take_w _ _ h).bind fun a l r e h => ?_
    refine (rowO_w hx _ _ h).bind fun d l4 r4 e4 h => ?_
    refine ⟨wfE_mk (fun q => by cases q) (fun _ => rfl) (fun _ => e) nms_nil (fun x hx => ?_) (fun _ h => by cases h) (fun _ h => by cases h) (fun _ => rfl), h⟩
    simp only [List.mem_cons, List.not_mem_nil, or_false] at hx
    rcases hx with rfl | rfl
    · exact e3
    · exact e4
  · exact ⟨e3, h⟩
theorem letO_w {ex : Par Ex} (hx : OkR wfE ex) : OkR wfE (letO ex) := by
  intro l r h
  unfold letO
  refine (want_w _ _ _ h).bind fun a l r e h => ?_
  refine (someO_w (bindO_w hx) _ _ h).bind fun c l3 r3 e3 h => ?_
  refine (want_w _ _ _ h).bind fun a l r e h => ?_
  refine (hx _ _ h).bind fun d l4 r4 e4 h => ?_
  exact ⟨wfE_mk (fun q => by cases q) (fun _ => rfl) (fun q => by rcases q with q | q | q <;> cases q) nms_nil (one_w e4) e3 (fun _ h => by cases h) (fun q => absurd rfl q), h⟩
theorem altO_w {ex : Par Ex} (hx : OkR wfE ex) : OkR wA (altO ex) := by
  intro l r h
  unfold altO
  split
  · refine (take_w _ _ h).bind fun a l r e h => ?_
    have hn := names_w r l [] h nms_nil
    refine (want_w _ _ _ hn.2).bind fun b l2 r2 _ h => ?_
    refine (hx _ _ h).bind fun c l3 r3 e3 h => ?_
    exact ⟨⟨fun _ => e, ⟨hn.1, fun q => absurd rfl q⟩, e3⟩, h⟩
  split
  · refine (take_w _ _ h).bind fun a l r e h => ?_
    refine (want_w _ _ _ h).bind fun b l2 r2 _ h => ?_
    refine (hx _ _ h).bind fun c l3 r3 e3 h => ?_
    exact ⟨⟨fun q => (by rcases q with q | q <;> cases q), ⟨nms_nil, fun _ => rfl⟩, e3⟩, h⟩
  · refine (want_w _ _ _ h).bind fun a l r e h => ?_
    refine (want_w _ _ _ h).bind fun b l2 r2 _ h => ?_
    refine (hx _ _ h).bind fun c l3 r3 e3 h => ?_
    exact ⟨⟨fun _ => e, ⟨nms_nil, fun _ => rfl⟩, e3⟩, h⟩
theorem caseO_w {ex : Par Ex} (hx : OkR wfE ex) : OkR wfE (caseO ex) := by
  intro l r h
  unfold caseO
  refine (want_w _ _ _ h).bind fun a l r e h => ?_
  refine (hx _ _ h).bind fun c l3 r3 e3 h => ?_
  refine (want_w _ _ _ h).bind fun a l r e h => ?_
  refine (want_w _ _ _ h).bind fun a l r e h => ?_
  split
  · exact (want_w _ _ _ h).bind fun a l r e h => ⟨wfE_mk (fun q => by cases q) (fun q => absurd rfl q) (fun q => by rcases q with q | q | q <;> cases q) nms_nil (one_w e3) (fun _ h => by cases h) (fun _ h => by cases h) (fun _ => rfl), h⟩
  · refine (someO_w (altO_w hx) _ _ h).bind fun d l4 r4 e4 h => ?_
    exact (want_w _ _ _ h).bind fun a l r e h => ⟨wfE_mk (fun q => by cases q) (fun q => absurd rfl q) (fun q => by rcases q with q | q | q <;> cases q) nms_nil (one_w e3) (fun _ h => by cases h) e4 (fun _ => rfl), h⟩
theorem lamO_w {ex : Par Ex} (hx : OkR wfE ex) : OkR wfE (lamO ex) := by
  intro l r h
  unfold lamO
  refine (want_w _ _ _ h).bind fun a l r e h => ?_
  have hn := names_w r l [] h nms_nil
  split
  · refine (want_w _ _ _ hn.2).bind fun b l2 r2 _ h => ?_
    refine (hx _ _ h).bind fun c l3 r3 e3 h => ?_
    exact ⟨wfE_mk (fun q => by cases q) (fun _ => rfl) (fun q => by rcases q with q | q | q <;> cases q) hn.1 (one_w e3) (fun _ h => by cases h) (fun _ h => by cases h) (fun _ => rfl) (fun q => absurd rfl q), h⟩
  · exact refuse_w _ _ _ _ h
theorem exprO_w : ∀ n d, OkR wfE (exprO n d)
  | 0, _ => fun _ _ _ => trivial
  | n + 1, d => by
    have hx := exprO_w n (d + 1)
    intro l r h
    unfold exprO
    split
    · split
      · exact refuse_w _ _ _ _ h
      split
      · exact letO_w hx _ _ h
      split
      · exact caseO_w hx _ _ h
      split
      · exact lamO_w hx _ _ h
      · exact rowsO_w hx _ _ h
    · exact refuse_w _ _ _ _ h
theorem declsO_w : ∀ n (acc : List (Nm × Int)), (∀ d, d ∈ acc → NmOk d.1) → OkR (fun l => ∀ d, d ∈ l → NmOk d.1) (declsO n acc)
  | 0, acc, ha => fun _ _ h => ⟨ha, h⟩
  | n + 1, acc, ha => by
    intro l r h
    unfold declsO
    split
    · refine (take_w _ _ h).bind fun a l r e h => ?_
      split
      · have h0 := h
        refine (take_w _ _ h).bind fun b l2 r2 e2 h => ?_
        split
        · exact refuse_w _ _ _ _ h0
        · refine declsO_w n _ (fun d hd => ?_) _ _ h
          rcases List.mem_append.1 hd with hd | hd
          · exact ha d hd
          · rw [List.mem_singleton.1 hd]; exact e
      · exact refuse_w _ _ _ _ h
    · exact ⟨ha, h⟩
def wfM (m : Md) : Prop := (∀ d, d ∈ m.1 → NmOk d.1) ∧ ∀ b, b ∈ m.2 → wB b
theorem moduleO_w : ∀ n cs bs, wfM (cs, bs) → OkR wfM (moduleO n cs bs)
  | 0, _, _, hm => fun _ _ h => ⟨hm, h⟩
  | n + 1, cs, bs, hm => by
    intro l r h
    unfold moduleO
    split
    · exact ⟨hm, h⟩
    split
    · refine (take_w _ _ h).bind fun a l r e h => ?_
      refine (declsO_w _ [] (fun _ h => by cases h) _ _ h).bind fun d l2 r2 e2 h => ?_
      refine (want_w _ _ _ h).bind fun b l3 r3 _ h => ?_
      have hm2 : wfM (cs ++ d, bs) := ⟨fun x hx => by
        rcases List.mem_append.1 hx with hx | hx
        · exact hm.1 x hx
        · exact e2 x hx, hm.2⟩
      exact moduleO_w n _ _ hm2 _ _ h
    · refine (bindO_w (exprO_w _ _) _ _ h).bind fun d l2 r2 e2 h => ?_
      refine (want_w _ _ _ h).bind fun b l3 r3 _ h => ?_
      have hm2 : wfM (cs, bs ++ [d]) := ⟨hm.1, fun x hx => by
        rcases List.mem_append.1 hx with hx | hx
        · exact hm.2 x hx
        · rw [List.mem_singleton.1 hx]; exact e2⟩
      exact moduleO_w n _ _ hm2 _ _ h
theorem parse_wf {T : List Tok} (hv : Tvs T) (hb : bytesT T ≤ 100000) {m : Md} {l : Int} {r : List Tok} (h : parseO T = .ok m l r) : wfM m := by
  have h0 : wfM ([], []) := ⟨fun _ h => (by cases h), fun _ h => (by cases h)⟩
  have hw := moduleO_w (T.length + 1) [] [] h0 1 T (Ntx.of hv hb)
  rw [show moduleO (T.length + 1) [] [] 1 T = parseO T from rfl, h] at hw
  exact hw.1
theorem parse_scope {T : List Tok} (hv : Tvs T) (hb : bytesT T ≤ 100000) {m : Md} {l : Int} {r : List Tok} (h : parseO T = .ok m l r) : sdM m = scM m ∧ FoOk (scM m) := by
  obtain ⟨h1, h2⟩ := parse_wf hv hb h
  exact ⟨sdM_eq (wfBs_of h2), scM_ok (wfBs_of h2) h1⟩
mutual
def wtE : Ex → Nat
  | .mk k _ _ _ ps ks bs al => (if k = 1 then 1 else 0) + ps.length + wtEs ks + wtBs bs + wtAs al
def wtEs : List Ex → Nat
  | [] => 0
  | e :: r => wtE e + wtEs r
def wtBs : List (Nm × List Nm × Ex) → Nat
  | [] => 0
  | (_, ps, e) :: r => (2 + ps.length + wtE e) + wtBs r
def wtAs : List (Int × Nm × Bool × Int × List Nm × Ex) → Nat
  | [] => 0
  | (_, _, _, _, ns, e) :: r => (1 + ns.length + wtE e) + wtAs r
end
abbrev nB (b : Bnd) : Nat := 1 + b.2.1.length + wtE b.2.2
abbrev nB2 (b : Bnd) : Nat := 2 + b.2.1.length + wtE b.2.2
abbrev nA (a : Alt) : Nat := 1 + a.2.2.2.2.1.length + wtE a.2.2.2.2.2
def sumN {α : Type} (f : α → Nat) : List α → Nat
  | [] => 0
  | a :: r => f a + sumN f r
theorem sumN_app {α : Type} (f : α → Nat) : ∀ (a b : List α), sumN f (a ++ b) = sumN f a + sumN f b
  | [], b => by simp [sumN]
  | x :: a, b => by simp only [List.cons_append, sumN, sumN_app f a b]; omega
theorem sumN_mem {α : Type} (f : α → Nat) : ∀ {l : List α} {x : α}, x ∈ l → f x ≤ sumN f l
  | y :: r, x, h => by
    rcases List.mem_cons.1 h with rfl | h
    · simp only [sumN]; omega
    · have := sumN_mem f h
      simp only [sumN]; omega
theorem sumN_nB2 : ∀ (l : List Bnd), sumN nB2 l = l.length + sumN nB l
  | [] => rfl
  | b :: r => by
    have h := sumN_nB2 r
    simp only [sumN, List.length_cons, h, nB, nB2]
    omega
theorem wtEs_sum : ∀ (l : List Ex), wtEs l = sumN wtE l
  | [] => by unfold wtEs sumN; rfl
  | e :: r => by unfold wtEs sumN; rw [wtEs_sum r]
theorem wtBs_sum : ∀ (l : List Bnd), wtBs l = sumN nB2 l
  | [] => by unfold wtBs sumN; rfl
  | (n, ps, e) :: r => by unfold wtBs sumN; rw [wtBs_sum r]
theorem wtAs_sum : ∀ (l : List Alt), wtAs l = sumN nA l
  | [] => by unfold wtAs sumN; rfl
  | (k, n, f, x, ns, e) :: r => by unfold wtAs sumN; rw [wtAs_sum r]
theorem wtE_mk (k : Int) (n : Nm) (f : Bool) (x : Int) (ps : List Nm) (ks : List Ex) (bs : List Bnd) (al : List Alt) : wtE (.mk k n f x ps ks bs al) = (if k = 1 then 1 else 0) + ps.length + sumN wtE ks + sumN nB2 bs + sumN nA al := by
  conv => lhs; unfold wtE
  rw [wtEs_sum, wtBs_sum, wtAs_sum]
def Cw {α : Type} (f : α → Nat) (m : Nat) : Out α → Prop
  | .ok a _ r => f a + r.length ≤ m
  | .bad _ _ => True
theorem Cw.bind {α β : Type} {f : α → Nat} {g : β → Nat} {m m' : Nat} {o : Out α} {k : α → Int → List Tok → Out β} (h : Cw f m o) (hk : ∀ a l r, f a + r.length ≤ m → Cw g m' (k a l r)) : Cw g m' (o.bind k) := by
  cases o with
  | ok a l r => exact hk a l r h
  | bad e l => trivial
theorem refuse_c {α : Type} (f : α → Nat) (m : Nat) (e l : Int) (r : List Tok) : Cw f m (refuseO e l r) := by cases r <;> trivial
theorem take_c (l : Int) (r : List Tok) : Cw (fun _ => 1) r.length (takeO l r) := by
  cases r with
  | nil => trivial
  | cons y r => show 1 + r.length ≤ r.length + 1; omega
theorem want_c (s : Sh) (l : Int) (r : List Tok) : Cw (fun _ => 1) r.length (wantO s l r) := by
  unfold wantO
  split
  · exact take_c _ _
  · exact refuse_c _ _ _ _ _
theorem names_c : ∀ (r : List Tok) (l : Int) (acc : List Nm), (namesO l r acc).1.length + (namesO l r acc).2.2.length ≤ acc.length + r.length
  | [], _, _ => Nat.le_refl _
  | x :: r, l, acc => by
    unfold namesO
    split
    · have := names_c r x.2 (acc ++ [x.1.t])
      rw [List.length_append] at this
      simp only [List.length_cons, List.length_nil] at this ⊢
      omega
    · exact Nat.le_refl _
abbrev CwP {α : Type} (f : α → Nat) (p : Par α) : Prop := ∀ l r, Cw f r.length (p l r)
theorem bindO_c {ex : Par Ex} (hx : CwP wtE ex) : CwP nB2 (bindO ex) := by
  intro l r
  unfold bindO
  refine (want_c _ _ _).bind fun a l1 r1 h1 => ?_
  have hn := names_c r1 l1 []
  refine (want_c _ _ _).bind fun b l2 r2 h2 => ?_
  refine (hx _ _).bind fun c l3 r3 h3 => ?_
  show 2 + (namesO l1 r1 []).1.length + wtE c + r3.length ≤ r.length
  simp only [List.length_nil] at hn
  omega
theorem moreO_c {α : Type} {f : α → Nat} {item : Par α} (hx : CwP f item) : ∀ n (acc : List α) (l : Int) (r : List Tok), Cw (sumN f) (sumN f acc + r.length) (moreO item n acc l r)
  | 0, acc, l, r => by unfold moreO; exact Nat.le_refl _
  | n + 1, acc, l, r => by
    unfold moreO
    split
    · refine (take_c _ _).bind fun a l1 r1 h1 => ?_
      refine (hx _ _).bind fun c l2 r2 h2 => ?_
      have h := moreO_c hx n (acc ++ [c]) l2 r2
      have e : sumN f (acc ++ [c]) = sumN f acc + f c := by rw [sumN_app]; simp [sumN]
      rw [e] at h
      cases ho : moreO item n (acc ++ [c]) l2 r2 with
      | bad e l => trivial
      | ok a l3 r3 =>
        rw [ho] at h
        show sumN f a + r3.length ≤ sumN f acc + r.length
        have h : sumN f a + r3.length ≤ sumN f acc + f c + r2.length := h
        omega
    · exact Nat.le_refl _
theorem someO_c {α : Type} {f : α → Nat} {item : Par α} (hx : CwP f item) : CwP (sumN f) (someO item) := by
  intro l r
  unfold someO
  refine (hx _ _).bind fun c l1 r1 h1 => ?_
  have h := moreO_c hx (r1.length + 1) [c] l1 r1
  have e : sumN f [c] = f c := by simp [sumN]
  rw [e] at h
  cases ho : moreO item (r1.length + 1) [c] l1 r1 with
  | bad e l => trivial
  | ok a l3 r3 =>
    rw [ho] at h
    have h : sumN f a + r3.length ≤ f c + r1.length := h
    show sumN f a + r3.length ≤ r.length
    omega
theorem innerO_c {ex : Par Ex} (hx : CwP wtE ex) : CwP wtE (innerO ex) := by
  intro l r
  unfold innerO
  refine (want_c _ _ _).bind fun a l1 r1 h1 => ?_
  refine (hx _ _).bind fun c l2 r2 h2 => ?_
  refine (want_c _ _ _).bind fun a l3 r3 h3 => ?_
  show wtE c + r3.length ≤ r.length
  omega
theorem leaf_wt (k : Int) (n : Nm) : wtE (.leaf k n) ≤ 1 := by
  show wtE (.mk k n false 0 [] [] [] []) ≤ 1
  rw [wtE_mk]
  simp only [sumN, List.length_nil]
  split <;> omega
theorem num_wt (f : Bool) (x : Int) : wtE (.num f x) ≤ 1 := by
  show wtE (.mk 3 [] f x [] [] [] []) ≤ 1
  rw [wtE_mk]
  simp only [sumN, List.length_nil]
  split <;> omega
theorem atomO_c {ex : Par Ex} (hx : CwP wtE ex) : CwP wtE (atomO ex) := by
  intro l r
  have hl : ∀ k, Cw wtE r.length ((takeO l r).bind fun t l r => .ok (.leaf k t.1.t) l r) := fun k => (take_c _ _).bind fun a l1 r1 h1 => by
    have := leaf_wt k a.1.t
    show wtE (.leaf k a.1.t) + r1.length ≤ r.length
    omega
  unfold atomO
  split
  · exact hl 1
  split
  · exact hl 2
  split
  · exact (take_c _ _).bind fun a l1 r1 h1 => by
      have := num_wt a.1.f a.1.x
      show wtE (.num a.1.f a.1.x) + r1.length ≤ r.length
      omega
  split
  · exact hl 5
  split
  · exact innerO_c hx l r
  · exact refuse_c _ _ _ _ _
theorem atomsO_c {ex : Par Ex} (hx : CwP wtE ex) : ∀ n (acc : List Ex) (l : Int) (r : List Tok), Cw (sumN wtE) (sumN wtE acc + r.length) (atomsO ex n acc l r)
  | 0, acc, l, r => by unfold atomsO; exact Nat.le_refl _
  | n + 1, acc, l, r => by
    unfold atomsO
    split
    · refine (atomO_c hx _ _).bind fun c l2 r2 h2 => ?_
      have h := atomsO_c hx n (acc ++ [c]) l2 r2
      have e : sumN wtE (acc ++ [c]) = sumN wtE acc + wtE c := by rw [sumN_app]; simp [sumN]
      rw [e] at h
      cases ho : atomsO ex n (acc ++ [c]) l2 r2 with
      | bad e l => trivial
      | ok a l3 r3 =>
        rw [ho] at h
        have h : sumN wtE a + r3.length ≤ sumN wtE acc + wtE c + r2.length := h
        show sumN wtE a + r3.length ≤ sumN wtE acc + r.length
        omega
    · exact Nat.le_refl _
theorem withKids_wt (a : Ex) (ks : List Ex) : wtE (a.withKids ks) ≤ wtE a + sumN wtE ks := by
  obtain ⟨k, n, f, x, ps, k0, bs, al⟩ := a
  show wtE (.mk k n f x ps ks bs al) ≤ _
  rw [wtE_mk, wtE_mk]
  omega
theorem rowE_wt (b : Bool) (a : Ex) (ks : List Ex) : wtE (rowE b a ks) ≤ wtE a + sumN wtE ks := by
  unfold rowE
  split
  · exact withKids_wt a ks
  split
  · omega
  · rw [wtE_mk]
    simp only [sumN, List.length_nil]
    split <;> omega
theorem rowO_c {ex : Par Ex} (hx : CwP wtE ex) : CwP wtE (rowO ex) := by
  intro l r
  unfold rowO
  refine (atomO_c hx _ _).bind fun c l1 r1 h1 => ?_
  refine (atomsO_c hx _ [] _ _).bind fun d l2 r2 h2 => ?_
  have := rowE_wt (decide (shapeL r = sCon ∨ shapeL r = sBack)) c d
  show wtE (rowE _ c d) + r2.length ≤ r.length
  simp only [sumN] at h2
  omega
theorem rowsO_c {ex : Par Ex} (hx : CwP wtE ex) : CwP wtE (rowsO ex) := by
  intro l r
  unfold rowsO
  refine (rowO_c hx _ _).bind fun c l1 r1 h1 => ?_
  split
  · refine (take_c _ _).bind fun a l2 r2 h2 => ?_
    refine (rowO_c hx _ _).bind fun d l3 r3 h3 => ?_
    show wtE (.mk 5 a.1.t false 0 [] [c, d] [] []) + r3.length ≤ r.length
    rw [wtE_mk]
    simp only [sumN, List.length_nil]
    rw [if_neg (by omega)]
    omega
  · exact h1
theorem letO_c {ex : Par Ex} (hx : CwP wtE ex) : CwP wtE (letO ex) := by
  intro l r
  unfold letO
  refine (want_c _ _ _).bind fun a l1 r1 h1 => ?_
  refine (someO_c (bindO_c hx) _ _).bind fun c l2 r2 h2 => ?_
  refine (want_c _ _ _).bind fun b l3 r3 h3 => ?_
  refine (hx _ _).bind fun d l4 r4 h4 => ?_
  show wtE (.mk 6 [] false 0 [] [d] c []) + r4.length ≤ r.length
  rw [wtE_mk]
  simp only [sumN, List.length_nil]
  rw [if_neg (by omega)]
  omega
theorem altO_c {ex : Par Ex} (hx : CwP wtE ex) : CwP nA (altO ex) := by
  intro l r
  unfold altO
  split
  · refine (take_c _ _).bind fun a l1 r1 h1 => ?_
    have hn := names_c r1 l1 []
    refine (want_c _ _ _).bind fun b l2 r2 h2 => ?_
    refine (hx _ _).bind fun c l3 r3 h3 => ?_
    show 1 + (namesO l1 r1 []).1.length + wtE c + r3.length ≤ r.length
    simp only [List.length_nil] at hn
    omega
  split
  · refine (take_c _ _).bind fun a l1 r1 h1 => ?_
    refine (want_c _ _ _).bind fun b l2 r2 h2 => ?_
    refine (hx _ _).bind fun c l3 r3 h3 => ?_
    show 1 + 0 + wtE c + r3.length ≤ r.length
    omega
  · refine (want_c _ _ _).bind fun a l1 r1 h1 => ?_
    refine (want_c _ _ _).bind fun b l2 r2 h2 => ?_
    refine (hx _ _).bind fun c l3 r3 h3 => ?_
    show 1 + 0 + wtE c + r3.length ≤ r.length
    omega
theorem caseO_c {ex : Par Ex} (hx : CwP wtE ex) : CwP wtE (caseO ex) := by
  intro l r
  unfold caseO
  refine (want_c _ _ _).bind fun a l1 r1 h1 => ?_
  refine (hx _ _).bind fun c l2 r2 h2 => ?_
  refine (want_c _ _ _).bind fun a l3 r3 h3 => ?_
  refine (want_c _ _ _).bind fun a l4 r4 h4 => ?_
  split
  · refine (want_c _ _ _).bind fun a l5 r5 h5 => ?_
    show wtE (.mk 7 [] false 0 [] [c] [] []) + r5.length ≤ r.length
    rw [wtE_mk]
    simp only [sumN, List.length_nil]
    rw [if_neg (by omega)]
    omega
  · refine (someO_c (altO_c hx) _ _).bind fun d l5 r5 h5 => ?_
    refine (want_c _ _ _).bind fun a l6 r6 h6 => ?_
    show wtE (.mk 7 [] false 0 [] [c] [] d) + r6.length ≤ r.length
    rw [wtE_mk]
    simp only [sumN, List.length_nil]
    rw [if_neg (by omega)]
    omega
theorem lamO_c {ex : Par Ex} (hx : CwP wtE ex) : CwP wtE (lamO ex) := by
  intro l r
  unfold lamO
  refine (want_c _ _ _).bind fun a l1 r1 h1 => ?_
  have hn := names_c r1 l1 []
  split
  · refine (want_c _ _ _).bind fun b l2 r2 h2 => ?_
    refine (hx _ _).bind fun c l3 r3 h3 => ?_
    show wtE (.mk 8 [] false 0 (namesO l1 r1 []).1 [c] [] []) + r3.length ≤ r.length
    rw [wtE_mk]
    simp only [sumN, List.length_nil] at hn ⊢
    rw [if_neg (by omega)]
    omega
  · exact refuse_c _ _ _ _ _
theorem exprO_c : ∀ n d, CwP wtE (exprO n d)
  | 0, _ => fun _ _ => trivial
  | n + 1, d => by
    have hx := exprO_c n (d + 1)
    intro l r
    unfold exprO
    split
    · split
      · exact refuse_c _ _ _ _ _
      split
      · exact letO_c hx _ _
      split
      · exact caseO_c hx _ _
      split
      · exact lamO_c hx _ _
      · exact rowsO_c hx _ _
    · exact refuse_c _ _ _ _ _
theorem declsO_c : ∀ n (acc : List (Nm × Int)) (l : Int) (r : List Tok), Cw List.length (acc.length + r.length) (declsO n acc l r)
  | 0, acc, l, r => by unfold declsO; exact Nat.le_refl _
  | n + 1, acc, l, r => by
    unfold declsO
    split
    · refine (take_c _ _).bind fun a l1 r1 h1 => ?_
      split
      · refine (take_c _ _).bind fun b l2 r2 h2 => ?_
        split
        · exact refuse_c _ _ _ _ _
        · have h := declsO_c n (acc ++ [(a.1.t, b.1.x)]) l2 r2
          cases ho : declsO n (acc ++ [(a.1.t, b.1.x)]) l2 r2 with
          | bad e l => trivial
          | ok a3 l3 r3 =>
            rw [ho] at h
            have h : a3.length + r3.length ≤ (acc ++ [(a.1.t, b.1.x)]).length + r2.length := h
            rw [List.length_append] at h
            simp only [List.length_cons, List.length_nil] at h
            show a3.length + r3.length ≤ acc.length + r.length
            omega
      · exact refuse_c _ _ _ _ _
    · exact Nat.le_refl _
def wtM (m : Md) : Nat := m.1.length + sumN nB2 m.2
theorem moduleO_c : ∀ n cs bs (l : Int) (r : List Tok), Cw wtM (wtM (cs, bs) + r.length) (moduleO n cs bs l r)
  | 0, cs, bs, l, r => by unfold moduleO; exact Nat.le_refl _
  | n + 1, cs, bs, l, r => by
    unfold moduleO
    split
    · exact Nat.le_refl _
    split
    · refine (take_c _ _).bind fun a l1 r1 h1 => ?_
      refine (declsO_c _ [] _ _).bind fun d l2 r2 h2 => ?_
      refine (want_c _ _ _).bind fun b l3 r3 h3 => ?_
      have h := moduleO_c n (cs ++ d) bs l3 r3
      cases ho : moduleO n (cs ++ d) bs l3 r3 with
      | bad e l => trivial
      | ok m l4 r4 =>
        rw [ho] at h
        have h : wtM m + r4.length ≤ ((cs ++ d).length + sumN nB2 bs) + r3.length := h
        rw [List.length_append] at h
        simp only [List.length_nil] at h2
        show wtM m + r4.length ≤ (cs.length + sumN nB2 bs) + r.length
        omega
    · refine (bindO_c (exprO_c _ _) _ _).bind fun d l2 r2 h2 => ?_
      refine (want_c _ _ _).bind fun b l3 r3 h3 => ?_
      have h := moduleO_c n cs (bs ++ [d]) l3 r3
      cases ho : moduleO n cs (bs ++ [d]) l3 r3 with
      | bad e l => trivial
      | ok m l4 r4 =>
        rw [ho] at h
        have e : sumN nB2 (bs ++ [d]) = sumN nB2 bs + nB2 d := by rw [sumN_app]; simp [sumN]
        have h : wtM m + r4.length ≤ (cs.length + sumN nB2 (bs ++ [d])) + r3.length := h
        rw [e] at h
        show wtM m + r4.length ≤ (cs.length + sumN nB2 bs) + r.length
        omega
theorem parse_wt {T : List Tok} {m : Md} {l : Int} {r : List Tok} (h : parseO T = .ok m l r) : wtM m ≤ T.length := by
  have hw := moduleO_c (T.length + 1) [] [] 1 T
  rw [show moduleO (T.length + 1) [] [] 1 T = parseO T from rfl, h] at hw
  have hw : wtM m + r.length ≤ (0 + 0) + T.length := hw
  omega
mutual
def wxE : Ex → Nat
  | .mk k _ _ _ ps ks bs al => (if k = 4 then 0 else 1) + ps.length + wxEs ks + wxBs bs + wxAs al
def wxEs : List Ex → Nat
  | [] => 0
  | e :: r => wxE e + wxEs r
def wxBs : List (Nm × List Nm × Ex) → Nat
  | [] => 0
  | (_, ps, e) :: r => (2 + ps.length + wxE e) + wxBs r
def wxAs : List (Int × Nm × Bool × Int × List Nm × Ex) → Nat
  | [] => 0
  | (_, _, _, _, ns, e) :: r => (1 + ns.length + wxE e) + wxAs r
end
abbrev xB2 (b : Bnd) : Nat := 2 + b.2.1.length + wxE b.2.2
abbrev xA (a : Alt) : Nat := 1 + a.2.2.2.2.1.length + wxE a.2.2.2.2.2
theorem wxEs_sum : ∀ (l : List Ex), wxEs l = sumN wxE l
  | [] => by unfold wxEs sumN; rfl
  | e :: r => by unfold wxEs sumN; rw [wxEs_sum r]
theorem wxBs_sum : ∀ (l : List Bnd), wxBs l = sumN xB2 l
  | [] => by unfold wxBs sumN; rfl
  | (n, ps, e) :: r => by unfold wxBs sumN; rw [wxBs_sum r]
theorem wxAs_sum : ∀ (l : List Alt), wxAs l = sumN xA l
  | [] => by unfold wxAs sumN; rfl
  | (k, n, f, x, ns, e) :: r => by unfold wxAs sumN; rw [wxAs_sum r]
theorem wxE_mk (k : Int) (n : Nm) (f : Bool) (x : Int) (ps : List Nm) (ks : List Ex) (bs : List Bnd) (al : List Alt) : wxE (.mk k n f x ps ks bs al) = (if k = 4 then 0 else 1) + ps.length + sumN wxE ks + sumN xB2 bs + sumN xA al := by
  conv => lhs; unfold wxE
  rw [wxEs_sum, wxBs_sum, wxAs_sum]
theorem bindO_x {ex : Par Ex} (hx : CwP wxE ex) : CwP xB2 (bindO ex) := by
  intro l r
  unfold bindO
  refine (want_c _ _ _).bind fun a l1 r1 h1 => ?_
  have hn := names_c r1 l1 []
  refine (want_c _ _ _).bind fun b l2 r2 h2 => ?_
  refine (hx _ _).bind fun c l3 r3 h3 => ?_
  show 2 + (namesO l1 r1 []).1.length + wxE c + r3.length ≤ r.length
  simp only [List.length_nil] at hn
  omega
theorem innerO_x {ex : Par Ex} (hx : CwP wxE ex) : CwP wxE (innerO ex) := by
  intro l r
  unfold innerO
  refine (want_c _ _ _).bind fun a l1 r1 h1 => ?_
  refine (hx _ _).bind fun c l2 r2 h2 => ?_
  refine (want_c _ _ _).bind fun a l3 r3 h3 => ?_
  show wxE c + r3.length ≤ r.length
  omega
theorem leaf_wx (k : Int) (n : Nm) : wxE (.leaf k n) ≤ 1 := by
  show wxE (.mk k n false 0 [] [] [] []) ≤ 1
  rw [wxE_mk]
  simp only [sumN, List.length_nil]
  split <;> omega
theorem num_wx (f : Bool) (x : Int) : wxE (.num f x) ≤ 1 := by
  show wxE (.mk 3 [] f x [] [] [] []) ≤ 1
  rw [wxE_mk]
  simp only [sumN, List.length_nil]
  split <;> omega
theorem atomO_x {ex : Par Ex} (hx : CwP wxE ex) : CwP wxE (atomO ex) := by
  intro l r
  have hl : ∀ k, Cw wxE r.length ((takeO l r).bind fun t l r => .ok (.leaf k t.1.t) l r) := fun k => (take_c _ _).bind fun a l1 r1 h1 => by
    have := leaf_wx k a.1.t
    show wxE (.leaf k a.1.t) + r1.length ≤ r.length
    omega
  unfold atomO
  split
  · exact hl 1
  split
  · exact hl 2
  split
  · exact (take_c _ _).bind fun a l1 r1 h1 => by
      have := num_wx a.1.f a.1.x
      show wxE (.num a.1.f a.1.x) + r1.length ≤ r.length
      omega
  split
  · exact hl 5
  split
  · exact innerO_x hx l r
  · exact refuse_c _ _ _ _ _
theorem atomsO_x {ex : Par Ex} (hx : CwP wxE ex) : ∀ n (acc : List Ex) (l : Int) (r : List Tok), Cw (sumN wxE) (sumN wxE acc + r.length) (atomsO ex n acc l r)
  | 0, acc, l, r => by unfold atomsO; exact Nat.le_refl _
  | n + 1, acc, l, r => by
    unfold atomsO
    split
    · refine (atomO_x hx _ _).bind fun c l2 r2 h2 => ?_
      have h := atomsO_x hx n (acc ++ [c]) l2 r2
      have e : sumN wxE (acc ++ [c]) = sumN wxE acc + wxE c := by rw [sumN_app]; simp [sumN]
      rw [e] at h
      cases ho : atomsO ex n (acc ++ [c]) l2 r2 with
      | bad e l => trivial
      | ok a l3 r3 =>
        rw [ho] at h
        have h : sumN wxE a + r3.length ≤ sumN wxE acc + wxE c + r2.length := h
        show sumN wxE a + r3.length ≤ sumN wxE acc + r.length
        omega
    · exact Nat.le_refl _
theorem withKids_wx (a : Ex) (ks : List Ex) : wxE (a.withKids ks) ≤ wxE a + sumN wxE ks := by
  obtain ⟨k, n, f, x, ps, k0, bs, al⟩ := a
  show wxE (.mk k n f x ps ks bs al) ≤ _
  rw [wxE_mk, wxE_mk]
  omega
theorem rowE_wx (b : Bool) (a : Ex) (ks : List Ex) : wxE (rowE b a ks) ≤ wxE a + sumN wxE ks := by
  unfold rowE
  split
  · exact withKids_wx a ks
  split
  · omega
  · rw [wxE_mk]
    simp only [sumN, List.length_nil, if_true]
    omega
theorem rowO_x {ex : Par Ex} (hx : CwP wxE ex) : CwP wxE (rowO ex) := by
  intro l r
  unfold rowO
  refine (atomO_x hx _ _).bind fun c l1 r1 h1 => ?_
  refine (atomsO_x hx _ [] _ _).bind fun d l2 r2 h2 => ?_
  have := rowE_wx (decide (shapeL r = sCon ∨ shapeL r = sBack)) c d
  show wxE (rowE _ c d) + r2.length ≤ r.length
  simp only [sumN] at h2
  omega
theorem rowsO_x {ex : Par Ex} (hx : CwP wxE ex) : CwP wxE (rowsO ex) := by
  intro l r
  unfold rowsO
  refine (rowO_x hx _ _).bind fun c l1 r1 h1 => ?_
  split
  · refine (take_c _ _).bind fun a l2 r2 h2 => ?_
    refine (rowO_x hx _ _).bind fun d l3 r3 h3 => ?_
    show wxE (.mk 5 a.1.t false 0 [] [c, d] [] []) + r3.length ≤ r.length
    rw [wxE_mk]
    simp only [sumN, List.length_nil]
    rw [if_neg (by omega)]
    omega
  · exact h1
theorem letO_x {ex : Par Ex} (hx : CwP wxE ex) : CwP wxE (letO ex) := by
  intro l r
  unfold letO
  refine (want_c _ _ _).bind fun a l1 r1 h1 => ?_
  refine (someO_c (bindO_x hx) _ _).bind fun c l2 r2 h2 => ?_
  refine (want_c _ _ _).bind fun b l3 r3 h3 => ?_
  refine (hx _ _).bind fun d l4 r4 h4 => ?_
  show wxE (.mk 6 [] false 0 [] [d] c []) + r4.length ≤ r.length
  rw [wxE_mk]
  simp only [sumN, List.length_nil]
  rw [if_neg (by omega)]
  omega
theorem altO_x {ex : Par Ex} (hx : CwP wxE ex) : CwP xA (altO ex) := by
  intro l r
  unfold altO
  split
  · refine (take_c _ _).bind fun a l1 r1 h1 => ?_
    have hn := names_c r1 l1 []
    refine (want_c _ _ _).bind fun b l2 r2 h2 => ?_
    refine (hx _ _).bind fun c l3 r3 h3 => ?_
    show 1 + (namesO l1 r1 []).1.length + wxE c + r3.length ≤ r.length
    simp only [List.length_nil] at hn
    omega
  split
  · refine (take_c _ _).bind fun a l1 r1 h1 => ?_
    refine (want_c _ _ _).bind fun b l2 r2 h2 => ?_
    refine (hx _ _).bind fun c l3 r3 h3 => ?_
    show 1 + 0 + wxE c + r3.length ≤ r.length
    omega
  · refine (want_c _ _ _).bind fun a l1 r1 h1 => ?_
    refine (want_c _ _ _).bind fun b l2 r2 h2 => ?_
    refine (hx _ _).bind fun c l3 r3 h3 => ?_
    show 1 + 0 + wxE c + r3.length ≤ r.length
    omega
theorem caseO_x {ex : Par Ex} (hx : CwP wxE ex) : CwP wxE (caseO ex) := by
  intro l r
  unfold caseO
  refine (want_c _ _ _).bind fun a l1 r1 h1 => ?_
  refine (hx _ _).bind fun c l2 r2 h2 => ?_
  refine (want_c _ _ _).bind fun a l3 r3 h3 => ?_
  refine (want_c _ _ _).bind fun a l4 r4 h4 => ?_
  split
  · refine (want_c _ _ _).bind fun a l5 r5 h5 => ?_
    show wxE (.mk 7 [] false 0 [] [c] [] []) + r5.length ≤ r.length
    rw [wxE_mk]
    simp only [sumN, List.length_nil]
    rw [if_neg (by omega)]
    omega
  · refine (someO_c (altO_x hx) _ _).bind fun d l5 r5 h5 => ?_
    refine (want_c _ _ _).bind fun a l6 r6 h6 => ?_
    show wxE (.mk 7 [] false 0 [] [c] [] d) + r6.length ≤ r.length
    rw [wxE_mk]
    simp only [sumN, List.length_nil]
    rw [if_neg (by omega)]
    omega
theorem lamO_x {ex : Par Ex} (hx : CwP wxE ex) : CwP wxE (lamO ex) := by
  intro l r
  unfold lamO
  refine (want_c _ _ _).bind fun a l1 r1 h1 => ?_
  have hn := names_c r1 l1 []
  split
  · refine (want_c _ _ _).bind fun b l2 r2 h2 => ?_
    refine (hx _ _).bind fun c l3 r3 h3 => ?_
    show wxE (.mk 8 [] false 0 (namesO l1 r1 []).1 [c] [] []) + r3.length ≤ r.length
    rw [wxE_mk]
    simp only [sumN, List.length_nil] at hn ⊢
    rw [if_neg (by omega)]
    omega
  · exact refuse_c _ _ _ _ _
theorem exprO_x : ∀ n d, CwP wxE (exprO n d)
  | 0, _ => fun _ _ => trivial
  | n + 1, d => by
    have hx := exprO_x n (d + 1)
    intro l r
    unfold exprO
    split
    · split
      · exact refuse_c _ _ _ _ _
      split
      · exact letO_x hx _ _
      split
      · exact caseO_x hx _ _
      split
      · exact lamO_x hx _ _
      · exact rowsO_x hx _ _
    · exact refuse_c _ _ _ _ _
def wxM (m : Md) : Nat := m.1.length + sumN xB2 m.2
theorem moduleO_x : ∀ n cs bs (l : Int) (r : List Tok), Cw wxM (wxM (cs, bs) + r.length) (moduleO n cs bs l r)
  | 0, cs, bs, l, r => by unfold moduleO; exact Nat.le_refl _
  | n + 1, cs, bs, l, r => by
    unfold moduleO
    split
    · exact Nat.le_refl _
    split
    · refine (take_c _ _).bind fun a l1 r1 h1 => ?_
      refine (declsO_c _ [] _ _).bind fun d l2 r2 h2 => ?_
      refine (want_c _ _ _).bind fun b l3 r3 h3 => ?_
      have h := moduleO_x n (cs ++ d) bs l3 r3
      cases ho : moduleO n (cs ++ d) bs l3 r3 with
      | bad e l => trivial
      | ok m l4 r4 =>
        rw [ho] at h
        have h : wxM m + r4.length ≤ ((cs ++ d).length + sumN xB2 bs) + r3.length := h
        rw [List.length_append] at h
        simp only [List.length_nil] at h2
        show wxM m + r4.length ≤ (cs.length + sumN xB2 bs) + r.length
        omega
    · refine (bindO_x (exprO_x _ _) _ _).bind fun d l2 r2 h2 => ?_
      refine (want_c _ _ _).bind fun b l3 r3 h3 => ?_
      have h := moduleO_x n cs (bs ++ [d]) l3 r3
      cases ho : moduleO n cs (bs ++ [d]) l3 r3 with
      | bad e l => trivial
      | ok m l4 r4 =>
        rw [ho] at h
        have e : sumN xB2 (bs ++ [d]) = sumN xB2 bs + xB2 d := by rw [sumN_app]; simp [sumN]
        have h : wxM m + r4.length ≤ (cs.length + sumN xB2 (bs ++ [d])) + r3.length := h
        rw [e] at h
        show wxM m + r4.length ≤ (cs.length + sumN xB2 bs) + r.length
        omega
theorem parse_wx {T : List Tok} {m : Md} {l : Int} {r : List Tok} (h : parseO T = .ok m l r) : wxM m ≤ T.length := by
  have hw := moduleO_x (T.length + 1) [] [] 1 T
  rw [show moduleO (T.length + 1) [] [] 1 T = parseO T from rfl, h] at hw
  have hw : wxM m + r.length ≤ (0 + 0) + T.length := hw
  omega
def smlB (c : UInt8) : Bool := 97 ≤ c && c ≤ 122
def OpF (n : Nm) (ks : List Ex) : Prop := (isLet n = true ∧ ∃ c r, n = c :: r ∧ smlB c = true) ∨ (isLet n = false ∧ (∃ c r, n = c :: r ∧ smlB c = false) ∧ ∃ a b, ks = [a, b])
def NumF (x : Int) : Prop := 0 ≤ x ∧ x < 18446744073709551616
mutual
def kfE : Ex → Prop
  | .mk k n _ x ps ks bs al => (1 ≤ k ∧ k ≤ 8) ∧ (k = 4 → 2 ≤ ks.length) ∧ (k = 6 ∨ k = 7 ∨ k = 8 → ∃ e, ks = [e]) ∧ (k = 5 → OpF n ks) ∧ (k = 3 → NumF x) ∧ (k = 8 → ps ≠ []) ∧ kfEs ks ∧ kfBs bs ∧ kfAs al
def kfEs : List Ex → Prop
  | [] => True
  | e :: r => kfE e ∧ kfEs r
def kfBs : List (Nm × List Nm × Ex) → Prop
  | [] => True
  | (_, _, e) :: r => kfE e ∧ kfBs r
def kfAs : List (Int × Nm × Bool × Int × List Nm × Ex) → Prop
  | [] => True
  | (k, n, _, x, ns, e) :: r => ((0 ≤ k ∧ k ≤ 2) ∧ (k = 1 → NumF x ∧ n = [] ∧ ns = []) ∧ kfE e) ∧ kfAs r
end
abbrev kfB (b : Bnd) : Prop := kfE b.2.2
abbrev kfA (a : Alt) : Prop := (0 ≤ a.1 ∧ a.1 ≤ 2) ∧ (a.1 = 1 → NumF a.2.2.2.1 ∧ a.2.1 = [] ∧ a.2.2.2.2.1 = []) ∧ kfE a.2.2.2.2.2
theorem kfEs_of : ∀ {l : List Ex}, (∀ b, b ∈ l → kfE b) → kfEs l
  | [], _ => by unfold kfEs; trivial
  | e :: r, h => by
    unfold kfEs
    exact ⟨h _ (List.mem_cons_self ..), kfEs_of fun b hb => h b (List.mem_cons_of_mem _ hb)⟩
theorem kfBs_of : ∀ {l : List Bnd}, (∀ b, b ∈ l → kfB b) → kfBs l
  | [], _ => by unfold kfBs; trivial
  | (n, ps, e) :: r, h => by
    unfold kfBs
    exact ⟨h _ (List.mem_cons_self ..), kfBs_of fun b hb => h b (List.mem_cons_of_mem _ hb)⟩
theorem kfAs_of : ∀ {l : List Alt}, (∀ b, b ∈ l → kfA b) → kfAs l
  | [], _ => by unfold kfAs; trivial
  | (k, n, f, x, ns, e) :: r, h => by
    unfold kfAs
    exact ⟨h _ (List.mem_cons_self ..), kfAs_of fun b hb => h b (List.mem_cons_of_mem _ hb)⟩
theorem kfEs_mem : ∀ {l : List Ex}, kfEs l → ∀ b, b ∈ l → kfE b
  | e :: r, h, b, hb => by
    unfold kfEs at h
    rcases List.mem_cons.1 hb with rfl | hb
    · exact h.1
    · exact kfEs_mem h.2 b hb
theorem kfBs_mem : ∀ {l : List Bnd}, kfBs l → ∀ b, b ∈ l → kfB b
  | (n, ps, e) :: r, h, b, hb => by
    unfold kfBs at h
    rcases List.mem_cons.1 hb with rfl | hb
    · exact h.1
    · exact kfBs_mem h.2 b hb
theorem kfAs_mem : ∀ {l : List Alt}, kfAs l → ∀ b, b ∈ l → kfA b
  | (k, n, f, x, ns, e) :: r, h, b, hb => by
    unfold kfAs at h
    rcases List.mem_cons.1 hb with rfl | hb
    · exact h.1
    · exact kfAs_mem h.2 b hb
theorem kfE_mk {k : Int} {n : Nm} {f : Bool} {x : Int} {ps : List Nm} {ks : List Ex} {bs : List Bnd} {al : List Alt} (h0 : 1 ≤ k ∧ k ≤ 8) (h1 : k = 4 → 2 ≤ ks.length) (h2 : k = 6 ∨ k = 7 ∨ k = 8 → ∃ e, ks = [e]) (h3 : k = 5 → OpF n ks) (h4 : k = 3 → NumF x) (h5 : k = 8 → ps ≠ []) (h6 : ∀ e, e ∈ ks → kfE e) (h7 : ∀ b, b ∈ bs → kfB b) (h8 : ∀ a, a ∈ al → kfA a) : kfE (.mk k n f x ps ks bs al) := by
  unfold kfE
  exact ⟨h0, h1, h2, h3, h4, h5, kfEs_of h6, kfBs_of h7, kfAs_of h8⟩
def TS (y : Tk) : Prop := (y.k = 7 → isLet y.t = true ∧ ∃ c r, y.t = c :: r ∧ smlB c = true) ∧ (y.k = 4 → isLet y.t = false ∧ ∃ c r, y.t = c :: r ∧ smlB c = false) ∧ (y.k = 3 → NumF y.x)
def Nts (r : List Tok) : Prop := ∀ y, y ∈ r → TS y.1
theorem Nts.tail {y : Tok} {r : List Tok} (h : Nts (y :: r)) : Nts r := fun z hz => h z (List.mem_cons_of_mem _ hz)
def OkQ {α : Type} (Q : α → Prop) (o : Out α) : Prop :=
  match o with
  | .ok a _ r => Q a ∧ Nts r
  | .bad _ _ => True
def OkS {α : Type} (Q : α → Prop) (p : Par α) : Prop := ∀ l r, Nts r → OkQ Q (p l r)
theorem OkQ.bind {α β : Type} {Q : α → Prop} {S : β → Prop} {o : Out α} {f : α → Int → List Tok → Out β} (h : OkQ Q o) (hf : ∀ a l r, Q a → Nts r → OkQ S (f a l r)) : OkQ S (o.bind f) := by
  cases o with
  | ok a l r => exact hf a l r h.1 h.2
  | bad e l => trivial
theorem refuse_k {α : Type} (Q : α → Prop) (e : Int) : OkS Q (refuseO e) := by
  intro l r h
  cases r <;> trivial
theorem take_k (l : Int) (r : List Tok) (h : Nts r) : OkQ (fun a => TS a.1 ∧ shapeT a.1 = shapeL r) (takeO l r) := by
  cases r with
  | nil => trivial
  | cons y r => exact ⟨⟨h y (List.mem_cons_self ..), rfl⟩, h.tail⟩
theorem want_k (s : Sh) : OkS (fun _ => True) (wantO s) := by
  intro l r h
  unfold wantO
  split
  · exact (by
      have ht := take_k l r h
      cases ho : takeO l r with
      | bad e l => trivial
      | ok a l2 r2 => rw [ho] at ht; exact ⟨trivial, ht.2⟩)
  · exact refuse_k _ _ _ _ h
theorem names_k : ∀ (r : List Tok) (l : Int) (acc : List Nm), Nts r → Nts (namesO l r acc).2.2
  | [], _, _, h => h
  | x :: r, l, acc, h => by
    unfold namesO
    split
    · exact names_k r x.2 _ h.tail
    · exact h
theorem names_ne {l : Int} {r : List Tok} (h : shapeL r = sName) : (namesO l r []).1 ≠ [] := by
  cases r with
  | nil => cases h
  | cons x r =>
    intro q
    have h' : shapeT x.1 = sName := h
    unfold namesO at q
    rw [if_pos h'] at q
    rw [names_acc] at q
    simp at q
theorem shape_k {y : Tk} {k : Int} (hk : k ≠ 5 ∧ k ≠ 6) (h : shapeT y = (k, [])) : y.k = k := by
  unfold shapeT at h
  split at h
  · rename_i g
    have : y.k = k := (Prod.mk.inj h).1
    have := hk
    omega
  · exact (Prod.mk.inj h).1
theorem one_k {e : Ex} (h : kfE e) : ∀ x, x ∈ [e] → kfE x := fun x hx => by rw [List.mem_singleton.1 hx]; exact h
theorem bindO_k {ex : Par Ex} (hx : OkS kfE ex) : OkS kfB (bindO ex) := by
  intro l r h
  unfold bindO
  refine (want_k _ _ _ h).bind fun a l r e h => ?_
  have hn := names_k r l [] h
  refine (want_k _ _ _ hn).bind fun b l2 r2 _ h => ?_
  refine (hx _ _ h).bind fun c l3 r3 e3 h => ?_
  exact ⟨e3, h⟩
theorem moreO_k {α : Type} {Q : α → Prop} {item : Par α} (hx : OkS Q item) : ∀ n (acc : List α), (∀ a, a ∈ acc → Q a) → OkS (fun l => ∀ a, a ∈ l → Q a) (moreO item n acc)
  | 0, acc, ha => fun _ _ h => ⟨ha, h⟩
  | n + 1, acc, ha => by
    intro l r h
    unfold moreO
    split
    · refine (take_k _ _ h).bind fun a l r e h => ?_
      refine (hx _ _ h).bind fun c l3 r3 e3 h => ?_
      refine moreO_k hx n _ (fun b hb => ?_) _ _ h
      rcases List.mem_append.1 hb with hb | hb
      · exact ha b hb
      · rw [List.mem_singleton.1 hb]; exact e3
    · exact ⟨ha, h⟩
theorem someO_k {α : Type} {Q : α → Prop} {item : Par α} (hx : OkS Q item) : OkS (fun l => ∀ a, a ∈ l → Q a) (someO item) := by
  intro l r h
  unfold someO
  refine (hx _ _ h).bind fun c l3 r3 e3 h => ?_
  exact moreO_k hx _ _ (fun b hb => by rw [List.mem_singleton.1 hb]; exact e3) _ _ h
theorem innerO_k {ex : Par Ex} (hx : OkS kfE ex) : OkS kfE (innerO ex) := by
  intro l r h
  unfold innerO
  refine (want_k _ _ _ h).bind fun a l r e h => ?_
  refine (hx _ _ h).bind fun c l3 r3 e3 h => ?_
  refine (want_k _ _ _ h).bind fun a l r e h => ?_
  exact ⟨e3, h⟩
theorem leaf_k {k : Int} {n : Nm} (hk : k = 1 ∨ k = 2 ∨ k = 5) (h : k = 5 → OpF n []) : kfE (.leaf k n) :=
  kfE_mk (by omega) (fun q => by omega) (fun q => by omega) h (fun q => by omega) (fun q => by omega) (fun _ h => by cases h) (fun _ h => by cases h) (fun _ h => by cases h)
def AtK (r : List Tok) (a : Ex) : Prop := kfE a ∧ (shapeL r = sCon ∨ shapeL r = sBack → ∃ k n, (k = 2 ∨ (k = 5 ∧ isLet n = true ∧ ∃ c r, n = c :: r ∧ smlB c = true)) ∧ a = .leaf k n)
theorem atomO_k {ex : Par Ex} (hx : OkS kfE ex) (l : Int) (r : List Tok) (h : Nts r) : OkQ (AtK r) (atomO ex l r) := by
  unfold atomO
  split
  · rename_i g
    exact (take_k _ _ h).bind fun a l r e h => ⟨⟨leaf_k (Or.inl rfl) (fun q => by cases q), fun q => by rw [g] at q; rcases q with q | q <;> cases q⟩, h⟩
  split
  · exact (take_k _ _ h).bind fun a l r e h => ⟨⟨leaf_k (Or.inr (Or.inl rfl)) (fun q => by cases q), fun _ => ⟨2, _, Or.inl rfl, rfl⟩⟩, h⟩
  split
  · rename_i g
    exact (take_k _ _ h).bind fun a l r e h => ⟨⟨kfE_mk (by decide) (fun q => by cases q) (fun q => by rcases q with q | q | q <;> cases q) (fun q => by cases q) (fun _ => e.1.2.2 (shape_k (by decide) (e.2.trans g))) (fun q => by cases q) (fun _ h => by cases h) (fun _ h => by cases h) (fun _ h => by cases h), fun q => by rw [g] at q; rcases q with q | q <;> cases q⟩, h⟩
  split
  · rename_i g
    exact (take_k _ _ h).bind fun a l r e h => by
      have hb := e.1.1 (shape_k (by decide) (e.2.trans g))
      exact ⟨⟨leaf_k (Or.inr (Or.inr rfl)) (fun _ => Or.inl hb), fun _ => ⟨5, _, Or.inr ⟨rfl, hb⟩, rfl⟩⟩, h⟩
  split
  · rename_i g
    have hi := innerO_k hx l r h
    cases ho : innerO ex l r with
    | bad e l => trivial
    | ok a l2 r2 =>
      rw [ho] at hi
      exact ⟨⟨hi.1, fun q => by rw [g] at q; rcases q with q | q <;> cases q⟩, hi.2⟩
  · exact refuse_k _ _ _ _ h
theorem atomO_k' {ex : Par Ex} (hx : OkS kfE ex) : OkS kfE (atomO ex) := by
  intro l r h
  have ha := atomO_k hx l r h
  cases ho : atomO ex l r with
  | bad e l => trivial
  | ok a l2 r2 =>
    rw [ho] at ha
    exact ⟨ha.1.1, ha.2⟩
theorem atomsO_k {ex : Par Ex} (hx : OkS kfE ex) : ∀ n (acc : List Ex), (∀ a, a ∈ acc → kfE a) → OkS (fun l => ∀ a, a ∈ l → kfE a) (atomsO ex n acc)
  | 0, acc, ha => fun _ _ h => ⟨ha, h⟩
  | n + 1, acc, ha => by
    intro l r h
    unfold atomsO
    split
    · refine (atomO_k' hx _ _ h).bind fun c l3 r3 e3 h => ?_
      refine atomsO_k hx n _ (fun b hb => ?_) _ _ h
      rcases List.mem_append.1 hb with hb | hb
      · exact ha b hb
      · rw [List.mem_singleton.1 hb]; exact e3
    · exact ⟨ha, h⟩
theorem rowO_k {ex : Par Ex} (hx : OkS kfE ex) : OkS kfE (rowO ex) := by
  intro l r h
  unfold rowO
  refine (atomO_k hx _ _ h).bind fun c l3 r3 e3 h3 => ?_
  refine (atomsO_k hx _ [] (fun _ h => by cases h) _ _ h3).bind fun d l4 r4 e4 h4 => ?_
  refine ⟨?_, h4⟩
  unfold rowE
  split
  · rename_i g
    obtain ⟨k, n, hk, rfl⟩ := e3.2 (of_decide_eq_true g)
    show kfE (.mk k n false 0 [] d [] [])
    rcases hk with rfl | ⟨rfl, hk⟩
    · exact kfE_mk (by decide) (fun q => by cases q) (fun q => by rcases q with q | q | q <;> cases q) (fun q => by cases q) (fun q => by cases q) (fun q => by cases q) e4 (fun _ h => by cases h) (fun _ h => by cases h)
    · exact kfE_mk (by decide) (fun q => by cases q) (fun q => by rcases q with q | q | q <;> cases q) (fun _ => Or.inl hk) (fun q => by cases q) (fun q => by cases q) e4 (fun _ h => by cases h) (fun _ h => by cases h)
  split
  · exact e3.1
  · rename_i g
    refine kfE_mk (by decide) (fun _ => ?_) (fun q => by rcases q with q | q | q <;> cases q) (fun q => by cases q) (fun q => by cases q) (fun q => by cases q) (fun e he => ?_) (fun _ h => by cases h) (fun _ h => by cases h)
    · cases d with
      | nil => simp at g
      | cons a b => simp
    · rcases List.mem_cons.1 he with rfl | he
      · exact e3.1
      · exact e4 e he
theorem rowsO_k {ex : Par Ex} (hx : OkS kfE ex) : OkS kfE (rowsO ex) := by
  intro l r h
  unfold rowsO
  refine (rowO_k hx _ _ h).bind fun c l3 r3 e3 h => ?_
  split
  · rename_i g
    refine (take_k _ _ h).bind fun a l r e h => ?_
    have hb := e.1.2.1 (shape_k (by decide) (e.2.trans g))
    refine (rowO_k hx _ _ h).bind fun d l4 r4 e4 h => ?_
    refine ⟨kfE_mk (by decide) (fun q => by cases q) (fun q => by rcases q with q | q | q <;> cases q) (fun _ => Or.inr ⟨hb.1, hb.2, _, _, rfl⟩) (fun q => by cases q) (fun q => by cases q) (fun x hx => ?_) (fun _ h => by cases h) (fun _ h => by cases h), h⟩
    simp only [List.mem_cons, List.not_mem_nil, or_false] at hx
    rcases hx with rfl | rfl
    · exact e3
    · exact e4
  · exact ⟨e3, h⟩
theorem letO_k {ex : Par Ex} (hx : OkS kfE ex) : OkS kfE (letO ex) := by
  intro l r h
  unfold letO
  refine (want_k _ _ _ h).bind fun a l r e h => ?_
  refine (someO_k (bindO_k hx) _ _ h).bind fun c l3 r3 e3 h => ?_
  refine (want_k _ _ _ h).bind fun a l r e h => ?_
  refine (hx _ _ h).bind fun d l4 r4 e4 h => ?_
  exact ⟨kfE_mk (by decide) (fun q => by cases q) (fun _ => ⟨_, rfl⟩) (fun q => by cases q) (fun q => by cases q) (fun q => by cases q) (one_k e4) e3 (fun _ h => by cases h), h⟩
theorem altO_k {ex : Par Ex} (hx : OkS kfE ex) : OkS kfA (altO ex) := by
  intro l r h
  unfold altO
  split
  · refine (take_k _ _ h).bind fun a l r e h => ?_
    have hn := names_k r l [] h
    refine (want_k _ _ _ hn).bind fun b l2 r2 _ h => ?_
    refine (hx _ _ h).bind fun c l3 r3 e3 h => ?_
    exact ⟨⟨(by constructor <;> simp), (fun q => by cases q), e3⟩, h⟩
  split
  · rename_i g
    refine (take_k _ _ h).bind fun a l r e h => ?_
    refine (want_k _ _ _ h).bind fun b l2 r2 _ h => ?_
    refine (hx _ _ h).bind fun c l3 r3 e3 h => ?_
    exact ⟨⟨(by constructor <;> simp), (fun _ => ⟨e.1.2.2 (shape_k (by decide) (e.2.trans g)), rfl, rfl⟩), e3⟩, h⟩
  · refine (want_k _ _ _ h).bind fun a l r e h => ?_
    refine (want_k _ _ _ h).bind fun b l2 r2 _ h => ?_
    refine (hx _ _ h).bind fun c l3 r3 e3 h => ?_
    exact ⟨⟨(by constructor <;> simp), (fun q => by cases q), e3⟩, h⟩
theorem caseO_k {ex : Par Ex} (hx : OkS kfE ex) : OkS kfE (caseO ex) := by
  intro l r h
  unfold caseO
  refine (want_k _ _ _ h).bind fun a l r e h => ?_
  refine (hx _ _ h).bind fun c l3 r3 e3 h => ?_
  refine (want_k _ _ _ h).bind fun a l r e h => ?_
  refine (want_k _ _ _ h).bind fun a l r e h => ?_
  split
  · exact (want_k _ _ _ h).bind fun a l r e h => ⟨kfE_mk (by decide) (fun q => by cases q) (fun _ => ⟨_, rfl⟩) (fun q => by cases q) (fun q => by cases q) (fun q => by cases q) (one_k e3) (fun _ h => by cases h) (fun _ h => by cases h), h⟩
  · refine (someO_k (altO_k hx) _ _ h).bind fun d l4 r4 e4 h => ?_
    exact (want_k _ _ _ h).bind fun a l r e h => ⟨kfE_mk (by decide) (fun q => by cases q) (fun _ => ⟨_, rfl⟩) (fun q => by cases q) (fun q => by cases q) (fun q => by cases q) (one_k e3) (fun _ h => by cases h) e4, h⟩
theorem lamO_k {ex : Par Ex} (hx : OkS kfE ex) : OkS kfE (lamO ex) := by
  intro l r h
  unfold lamO
  refine (want_k _ _ _ h).bind fun a l r e h => ?_
  have hn := names_k r l [] h
  split
  · rename_i g
    refine (want_k _ _ _ hn).bind fun b l2 r2 _ h => ?_
    refine (hx _ _ h).bind fun c l3 r3 e3 h => ?_
    exact ⟨kfE_mk (by decide) (fun q => by cases q) (fun _ => ⟨_, rfl⟩) (fun q => by cases q) (fun q => by cases q) (fun _ => names_ne g) (one_k e3) (fun _ h => by cases h) (fun _ h => by cases h), h⟩
  · exact refuse_k _ _ _ _ h
theorem exprO_k : ∀ n d, OkS kfE (exprO n d)
  | 0, _ => fun _ _ _ => trivial
  | n + 1, d => by
    have hx := exprO_k n (d + 1)
    intro l r h
    unfold exprO
    split
    · split
      · exact refuse_k _ _ _ _ h
      split
      · exact letO_k hx _ _ h
      split
      · exact caseO_k hx _ _ h
      split
      · exact lamO_k hx _ _ h
      · exact rowsO_k hx _ _ h
    · exact refuse_k _ _ _ _ h
theorem declsO_k : ∀ n (acc : List (Nm × Int)), OkS (fun _ => True) (declsO n acc)
  | 0, acc => fun _ _ h => ⟨trivial, h⟩
  | n + 1, acc => by
    intro l r h
    unfold declsO
    split
    · refine (take_k _ _ h).bind fun a l r e h => ?_
      split
      · have h0 := h
        refine (take_k _ _ h).bind fun b l2 r2 e2 h => ?_
        split
        · exact refuse_k _ _ _ _ h0
        · exact declsO_k n _ _ _ h
      · exact refuse_k _ _ _ _ h
    · exact ⟨trivial, h⟩
def kfM (m : Md) : Prop := ∀ b, b ∈ m.2 → kfB b
theorem moduleO_k : ∀ n cs bs, kfM (cs, bs) → OkS kfM (moduleO n cs bs)
  | 0, _, _, hm => fun _ _ h => ⟨hm, h⟩
  | n + 1, cs, bs, hm => by
    intro l r h
    unfold moduleO
    split
    · exact ⟨hm, h⟩
    split
    · refine (take_k _ _ h).bind fun a l r e h => ?_
      refine (declsO_k _ [] _ _ h).bind fun d l2 r2 e2 h => ?_
      refine (want_k _ _ _ h).bind fun b l3 r3 _ h => ?_
      exact moduleO_k n _ _ (show kfM (cs ++ d, bs) from hm) _ _ h
    · refine (bindO_k (exprO_k _ _) _ _ h).bind fun d l2 r2 e2 h => ?_
      refine (want_k _ _ _ h).bind fun b l3 r3 _ h => ?_
      have hm2 : kfM (cs, bs ++ [d]) := fun x hx => by
        rcases List.mem_append.1 hx with hx | hx
        · exact hm x hx
        · rw [List.mem_singleton.1 hx]; exact e2
      exact moduleO_k n _ _ hm2 _ _ h
theorem parse_kf {T : List Tok} (ht : Nts T) {m : Md} {l : Int} {r : List Tok} (h : parseO T = .ok m l r) : kfM m := by
  have h0 : kfM ([], []) := fun _ h => (by cases h)
  have hw := moduleO_k (T.length + 1) [] [] h0 1 T ht
  rw [show moduleO (T.length + 1) [] [] 1 T = parseO T from rfl, h] at hw
  exact hw.1
end Go.Proofs.YthehgcmhcioffaaGreatDoor
