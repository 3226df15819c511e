import Derived.Test.YthehgcmhcioffaaGreatDoorMg4
import Derived.Test.YthehgcmhcioffaaGreatDoorMg11
import Derived.Test.YthehgcmhcioffaaGreatDoorMg20
namespace Go.Proofs.YthehgcmhcioffaaGreatDoor
set_option maxHeartbeats 64000000
set_option maxRecDepth 100000
open Go.RowKit Go.Lib
def DocV (lo : Nat) (o : Out Md) (e : Ending) (w' : World) : Prop :=
  match o with
  | .ok md _ _ => ∃ vd vb B cs, e = .returned (.tuple #[.agg #[vd, vb], .int .i64 0, .int .i64 0]) ∧ lo ≤ B ∧ w'.ownsRow B 69 2 vd md.1.length (declV md.1) ∧ w'.ownsRow B 39 10 vb md.2.length cs ∧ BndsAt w' (fun g => B ≤ g ∧ some g ≠ vb.ownBlock ∧ some g ≠ vd.ownBlock) md.2 cs
  | .bad er ln => er ≠ 0 ∧ e = .returned (.tuple #[.agg #[.slice none 0 0, .slice none 0 0], .int .i64 er, .int .i64 ln])
theorem doc_shape {lo : Nat} {l : List UInt8} {e : Ending} {w' : World} (h : ParseV lo (lexL l) e w') : DocV lo (modL l) e w' := by
  unfold modL
  cases hR : lexL l with
  | bad k line => rw [hR] at h; exact ⟨lexL_bad hR, h⟩
  | good T =>
    rw [hR] at h
    have hs := parse_sim (lexL_tvs hR)
    obtain ⟨vd, vb, he, hv⟩ := h
    show DocV lo (parseO T) e w'
    cases ho : parseO T with
    | ok md a b =>
      rw [ho] at hs
      obtain ⟨hd, -, -⟩ := hs
      rw [hd] at he hv
      rcases hv with ⟨h0, -⟩ | ⟨-, B, hB, h1, cs, h2, h3⟩
      · exact absurd rfl h0
      · exact ⟨vd, vb, B, cs, he, hB, h1, h2, h3⟩
    | bad er ln =>
      rw [ho] at hs
      obtain ⟨h0, h1, h2⟩ := hs
      rcases hv with ⟨-, rfl, rfl⟩ | ⟨h3, -⟩
      · rw [h1, h2, if_neg h0] at he
        exact ⟨h0, he⟩
      · exact absurd (h1.symm.trans h3) h0
def Told (o : Out Md) (e : Ending) (w' : World) : Prop :=
  match o with
  | .ok md _ _ => ∃ ad cd ab cb, e = .returned (.tuple #[.agg #[.slice ad md.1.length cd, .slice ab md.2.length cb], .int .i64 0, .int .i64 0]) ∧ ModAt w' (fun g => g < w'.heap.size) md ad cd ab cb
  | .bad er ln => er ≠ 0 ∧ e = .returned (.tuple #[.agg #[.slice none 0 0, .slice none 0 0], .int .i64 er, .int .i64 ln])
theorem modL_ok {l : List UInt8} (hl : l.length ≤ 100000) {md : Md} {a : Int} {b : List Tok} (h : modL l = .ok md a b) : MdOk md ∧ sdM md = scM md ∧ FoOk (scM md) := by
  unfold modL at h
  cases hR : lexL l with
  | bad k line => rw [hR] at h; cases h
  | good T =>
    rw [hR] at h
    obtain ⟨-, h2, h3⟩ := lexL_own hR
    have hv := lexL_tvs hR
    have hw := parse_wf hv (by omega) h
    have ht := parse_wt h
    have hs := parse_scope hv (by omega) h
    unfold wtM at ht
    rw [sumN_nB2] at ht
    exact ⟨⟨hw.1, hw.2, by omega⟩, hs⟩
def FoLen (o : Fo) : Prop := ∀ e n, o = some (e, n) → n.length ≤ 100000
theorem FoLen.or {a b : Fo} (ha : FoLen a) (hb : FoLen b) : FoLen (a.or b) := by
  cases a with
  | none => simpa using hb
  | some x => intro e n h; exact ha e n (by simpa using h)
theorem hasF_len {l : List Nm} {n : Nm} (h : n.length ≤ 100000) : FoLen (hasF l n) := by
  intro e m he
  unfold hasF at he
  split at he
  · cases he
  · cases he; exact h
theorem twF_len {l : List Nm} (h : ∀ x, x ∈ l → x.length ≤ 100000) : FoLen (twF l) := by
  intro e m he
  unfold twF at he
  obtain ⟨x, hx, hy⟩ := Option.map_eq_some_iff.1 he
  cases hy
  exact h _ (twiceL_mem _ _ _ hx)
theorem none_len : FoLen none := fun _ _ h => by cases h
theorem bNames_lens {bs : List (Nm × List Nm × Ex)} (h : wfBs bs) : ∀ x, x ∈ bNames bs → x.length ≤ 100000 := fun x hx => (bNames_ok h x hx).2
mutual
theorem scE_len {cs : List Nm} : ∀ (e : Ex) (sc : List Nm), wfE e → FoLen (scE cs sc e)
  | .mk k n f x ps ks bs al, sc, h => by
    unfold wfE at h
    obtain ⟨h1, h2, h3, h4, h5, h6, h7, -⟩ := h
    unfold scE
    split
    · rename_i g; exact hasF_len (h3 (Or.inl g)).2
    split
    · rename_i g; exact (hasF_len (h3 (Or.inr (Or.inl g))).2).or (scEs_len ks sc h5)
    split
    · exact (twF_len (bNames_lens h6)).or ((scBs_len bs _ h6).or (scEs_len ks _ h5))
    split
    · exact (scEs_len ks sc h5).or (scAs_len al sc h7)
    split
    · exact (twF_len (nms_len h4)).or (scEs_len ks _ h5)
    · exact scEs_len ks sc h5
theorem scEs_len {cs : List Nm} : ∀ (l : List Ex) (sc : List Nm), wfEs l → FoLen (scEs cs sc l)
  | [], _, _ => by unfold scEs; exact none_len
  | e :: r, sc, h => by
    unfold wfEs at h
    unfold scEs
    exact (scE_len e sc h.1).or (scEs_len r sc h.2)
theorem scBs_len {cs : List Nm} : ∀ (l : List (Nm × List Nm × Ex)) (sc : List Nm), wfBs l → FoLen (scBs cs sc l)
  | [], _, _ => by unfold scBs; exact none_len
  | (n, ps, e) :: r, sc, h => by
    unfold wfBs at h
    unfold scBs
    exact ((twF_len (nms_len h.1.2.1)).or (scE_len e _ h.1.2.2)).or (scBs_len r sc h.2)
theorem scAs_len {cs : List Nm} : ∀ (l : List (Int × Nm × Bool × Int × List Nm × Ex)) (sc : List Nm), wfAs l → FoLen (scAs cs sc l)
  | [], _, _ => by unfold scAs; exact none_len
  | (k, n, f, x, ns, e) :: r, sc, h => by
    unfold wfAs at h
    unfold scAs
    refine FoLen.or ?_ (scAs_len r sc h.2)
    split
    · rename_i g; exact (hasF_len (h.1.1 (Or.inl g)).2).or ((twF_len (nms_len h.1.2.1.1)).or (scE_len e _ h.1.2.2))
    split
    · exact scE_len e _ h.1.2.2
    · exact scE_len e _ h.1.2.2
end
theorem MdOk.len {m : Md} (hm : MdOk m) : FoLen (scM m) := by
  have hc : ∀ x, x ∈ conNames m → x.length ≤ 100000 := fun x hx => by
    obtain ⟨d, hd, rfl⟩ := List.mem_map.1 hx
    rcases List.mem_append.1 hd with hd | hd
    · simp only [four, List.mem_cons, List.not_mem_nil, or_false] at hd
      rcases hd with rfl | rfl | rfl | rfl <;> decide
    · exact (hm.wd d hd).2
  refine (twF_len hc).or ((twF_len (bNames_lens (wfBs_of hm.wb))).or (FoLen.or ?_ (scBs_len _ _ (wfBs_of hm.wb))))
  split
  · exact none_len
  · intro e n he; cases he; decide
def exText : ByteArray := ⟨#[109, 97, 105, 110, 32, 61, 32, 92, 120, 32, 45, 62, 32, 121, 59]⟩
def exMod : Md := ([], [([109, 97, 105, 110], [], .mk 8 [] false 0 [[120]] [.leaf 1 [121]] [] [])])
theorem parseL_nn (l : List UInt8) : 0 ≤ (parseL l).2.1 := by
  unfold parseL
  split
  · split
    · exact Int.natCast_nonneg _
    · exact Int.le_refl 0
  · split
    · split
      · unfold U
        exact Int.emod_nonneg _ (by decide)
      · exact Int.le_refl 0
    · exact Int.le_refl 0
theorem numT_nn (t : List UInt8) : 0 ≤ (numT t).1.x := by
  unfold numT
  split
  · exact parseL_nn _
  · exact Int.le_refl 0
theorem readL_nn (l : List UInt8) : 0 ≤ (readL l).1.x := by
  unfold readL
  split
  · exact Int.le_refl 0
  · split
    · exact numT_nn _
    · unfold readR
      repeat' split
      all_goals first | exact numT_nn _ | exact Int.le_refl 0
def Nnt (r : List Tok) : Prop := ∀ y, y ∈ r → 0 ≤ y.1.x
theorem lexA_nn : ∀ (f : Nat) (l : List UInt8) (line : Int) (acc T : List (Tk × Int)), Nnt acc → lexA f l line acc = .good T → Nnt T
  | 0, l, line, acc, T, ha, h => by unfold lexA at h; cases h; exact ha
  | f + 1, [], line, acc, T, ha, h => by unfold lexA at h; cases h; exact ha
  | f + 1, c :: r, line, acc, T, ha, h => by
    unfold lexA at h
    split at h
    · exact lexA_nn f _ _ _ _ ha h
    split at h
    · exact lexA_nn f _ _ _ _ ha h
    split at h
    · split at h
      · cases h; exact ha
      · exact lexA_nn f _ _ _ _ ha h
    split at h
    · split at h
      · cases h
      · refine lexA_nn f _ _ _ _ (fun y hy => ?_) h
        rcases List.mem_append.1 hy with hy | hy
        · exact ha y hy
        · rw [List.mem_singleton.1 hy]; exact readL_nn _
    · cases h
theorem lexL_nn {l : List UInt8} {T : List Tok} (h : lexL l = .good T) : Nnt T := lexA_nn _ _ _ _ _ (fun _ h => by cases h) h
def OkN {α : Type} (Q : α → Prop) (o : Out α) : Prop :=
  match o with
  | .ok a _ r => Q a ∧ Nnt r
  | .bad _ _ => True
theorem OkN.bind {α β : Type} {Q : α → Prop} {S : β → Prop} {o : Out α} {f : α → Int → List Tok → Out β} (h : OkN Q o) (hf : ∀ a l r, Q a → Nnt r → OkN S (f a l r)) : OkN S (o.bind f) := by
  cases o with
  | ok a l r => exact hf a l r h.1 h.2
  | bad e l => trivial
theorem okN_suf {α : Type} {p : Par α} (h : Suf p) (l : Int) (r : List Tok) (hr : Nnt r) : OkN (fun _ => True) (p l r) := by
  have hs := h l r
  cases hp : p l r with
  | bad e l => trivial
  | ok a l2 r2 =>
    rw [hp] at hs
    exact ⟨trivial, fun y hy => hr y (hs y hy)⟩
theorem take_nn (l : Int) (r : List Tok) (hr : Nnt r) : OkN (fun t => 0 ≤ t.1.x) (takeO l r) := by
  cases r with
  | nil => trivial
  | cons y r => exact ⟨hr y (List.mem_cons_self ..), fun z hz => hr z (List.mem_cons_of_mem _ hz)⟩
theorem refuse_nn {α : Type} (Q : α → Prop) (e l : Int) (r : List Tok) : OkN Q (refuseO e l r) := by rw [refuseO_eq]; trivial
abbrev Ar (d : Nm × Int) : Prop := 0 ≤ d.2 ∧ d.2 ≤ 24
theorem declsO_nn : ∀ n (acc : List (Nm × Int)) (l : Int) (r : List Tok), Nnt r → (∀ d, d ∈ acc → Ar d) → OkN (fun l => ∀ d, d ∈ l → Ar d) (declsO n acc l r)
  | 0, acc, l, r, h, ha => ⟨ha, h⟩
  | n + 1, acc, l, r, h, ha => by
    unfold declsO
    split
    · refine (take_nn _ _ h).bind fun a l r e h => ?_
      split
      · refine (take_nn _ _ h).bind fun b l2 r2 e2 h => ?_
        split
        · exact refuse_nn _ _ _ _
        · rename_i hc
          refine declsO_nn n _ _ _ h fun d hd => ?_
          rcases List.mem_append.1 hd with hd | hd
          · exact ha d hd
          · rw [List.mem_singleton.1 hd]
            exact ⟨e2, by have := fun q => hc (Or.inr q); show b.1.x ≤ 24; omega⟩
      · exact refuse_nn _ _ _ _
    · exact ⟨ha, h⟩
theorem moduleO_nn : ∀ n cs bs (l : Int) (r : List Tok), Nnt r → (∀ d, d ∈ cs → Ar d) → OkN (fun m : Md => ∀ d, d ∈ m.1 → Ar d) (moduleO n cs bs l r)
  | 0, _, _, _, _, h, hm => ⟨hm, h⟩
  | n + 1, cs, bs, l, r, h, hm => by
    unfold moduleO
    split
    · exact ⟨hm, h⟩
    split
    · refine (take_nn _ _ h).bind fun a l r e h => ?_
      refine (declsO_nn _ [] _ _ h (fun _ h => by cases h)).bind fun d l2 r2 e2 h => ?_
      refine (okN_suf (want_suf _) _ _ h).bind fun b l3 r3 _ h => ?_
      refine moduleO_nn n _ _ _ _ h fun x hx => ?_
      rcases List.mem_append.1 hx with hx | hx
      · exact hm x hx
      · exact e2 x hx
    · refine (okN_suf (bind_suf (expr_suf _ _)) _ _ h).bind fun d l2 r2 e2 h => ?_
      refine (okN_suf (want_suf _) _ _ h).bind fun b l3 r3 _ h => ?_
      exact moduleO_nn n _ _ _ _ h hm
theorem modL_ar {l : List UInt8} {md : Md} {a : Int} {b : List Tok} (h : modL l = .ok md a b) : ∀ d, d ∈ md.1 → Ar d := by
  unfold modL at h
  cases hR : lexL l with
  | bad k line => rw [hR] at h; cases h
  | good T =>
    rw [hR] at h
    have hw := moduleO_nn (T.length + 1) [] [] 1 T (lexL_nn hR) (fun _ h => by cases h)
    have h' : moduleO (T.length + 1) [] [] 1 T = .ok md a b := h
    rw [h'] at hw
    exact hw.1
theorem numT_range {t : List UInt8} {y : Tk} (h : numT t = (y, 0)) : NumF y.x := by
  unfold numT at h
  split at h
  · rename_i g
    injection h with h _
    subst h
    have hb := back (trimPrefix t [35]) (parseL (trimPrefix t [35])).1 (parseL (trimPrefix t [35])).2.1 (by rw [← g])
    exact ⟨hb.1, hb.2.1⟩
  · rename_i g
    injection h with _ h
    exact absurd h (by first | exact g | (intro q; exact g (by simpa using q)) | decide)
theorem own_num {y : Tk} (h : Own y) : NumF y.x := by
  have z : NumF 0 := ⟨Int.le_refl _, by decide⟩
  obtain ⟨c, r, e, -, -, -, hr⟩ := h
  rw [e, one_read] at hr
  unfold oneL at hr
  split at hr
  · split at hr
    · cases hr
    · cases hr; exact z
  split at hr
  · exact numT_range hr
  split at hr
  · split at hr
    · cases hr
    · exact numT_range hr
  split at hr
  · cases hr
  · cases hr; exact z
theorem not_let {c : UInt8} {t : List UInt8} (h1 : ¬ Sm c) (h2 : ¬ Cp c) : isLet (c :: t) = false := by
  unfold isLet
  rw [List.all_cons]
  have : letterB c = false := by
    unfold letterB
    unfold Sm at h1
    unfold Cp at h2
    simp only [Bool.or_eq_false_iff, Bool.and_eq_false_iff, decide_eq_false_iff_not, UInt8.le_iff_toNat_le]
    constructor
    · rcases Nat.lt_or_ge c.toNat 65 with h | h
      · left; show ¬ 65 ≤ c.toNat; omega
      · right; show ¬ c.toNat ≤ 90; omega
    · rcases Nat.lt_or_ge c.toNat 97 with h | h
      · left; show ¬ 97 ≤ c.toNat; omega
      · right; show ¬ c.toNat ≤ 122; omega
  rw [this, Bool.false_and]
theorem not_sml {c : UInt8} (h1 : ¬ Sm c) : smlB c = false := by
  unfold smlB
  unfold Sm at h1
  simp only [Bool.and_eq_false_iff, decide_eq_false_iff_not, UInt8.le_iff_toNat_le]
  rcases Nat.lt_or_ge c.toNat 97 with h | h
  · left; show ¬ 97 ≤ c.toNat; omega
  · right; show ¬ c.toNat ≤ 122; omega
theorem word_let {t : List UInt8} (h : wordF t = some 7) : isLet t = true ∧ ∃ c r, t = c :: r ∧ smlB c = true := by
  unfold wordF kput at h
  repeat' split at h
  all_goals first
    | (rename_i e; subst e; exact ⟨by decide, _, _, rfl, by decide⟩)
    | cases h
theorem ts_of {y : Tk} {c : UInt8} {t : List UInt8} (e : y.t = c :: t) (h : TkOk y c) (hn : NumF y.x) : TS y := by
  cases h with
  | name k s w f x => exact ⟨fun q => by omega, fun q => by omega, fun _ => hn⟩
  | word k s w f x => exact ⟨fun q => by rw [q] at w; exact word_let w, fun q => by omega, fun _ => hn⟩
  | con k s f x => exact ⟨fun q => by omega, fun q => by omega, fun _ => hn⟩
  | num k s => exact ⟨fun q => by omega, fun q => by omega, fun _ => hn⟩
  | sign k ns nc nd nh f x => exact ⟨fun q => by omega, fun _ => ⟨by rw [e]; exact not_let ns nc, c, t, e, not_sml ns⟩, fun _ => hn⟩
structure ShOk (m : Md) : Prop where
  kb : kfBs m.2
  wb : wfBs m.2
  wx : m.1.length + sumN xB2 m.2 ≤ 4096
  ar : ∀ d, d ∈ m.1 → (-9223372036854775808 ≤ d.2 ∧ d.2 ≤ 9223372036854775807) ∧ (declT d).length ≤ 200000
theorem wb_of : ∀ {l : List Bnd}, (∀ b, b ∈ l → wB b) → wfBs l
  | [], _ => by unfold wfBs; trivial
  | (n, ps, e) :: r, h => by
    unfold wfBs
    exact ⟨h _ (List.mem_cons_self ..), wb_of fun b hb => h b (List.mem_cons_of_mem _ hb)⟩
theorem itoa_small : ∀ n : Fin 25, (Lib.itoa (n.val : Int)).length ≤ 2 := by decide +kernel
theorem modL_sh {l : List UInt8} (hl : l.length ≤ 100000) {md : Md} {a : Int} {b : List Tok} (h : modL l = .ok md a b) : ShOk md := by
  have hm := (modL_ok hl h).1
  have har := modL_ar h
  unfold modL at h
  cases hR : lexL l with
  | bad k line => rw [hR] at h; cases h
  | good T =>
    rw [hR] at h
    obtain ⟨ho, h2, -⟩ := lexL_own hR
    have hok := (lexL_ok hR).ok
    have hn : Nts T := fun y hy => by
      obtain ⟨-, c, t, e, hk⟩ := hok y hy
      exact ts_of e hk (own_num (ho y hy))
    have hk := parse_kf hn h
    have hw := parse_wx h
    refine ⟨kfBs_of hk, wb_of hm.wb, by unfold wxM at hw; omega, fun d hd => ?_⟩
    have h1 := har d hd
    have h3 := (hm.wd d hd).2
    obtain ⟨n, x⟩ := d
    have h1 : 0 ≤ x ∧ x ≤ 24 := h1
    have h3 : n.length ≤ 100000 := h3
    obtain ⟨k, rfl⟩ := Int.eq_ofNat_of_zero_le h1.1
    have h4 : (Lib.itoa (k : Int)).length ≤ 2 := itoa_small ⟨k, by omega⟩
    refine ⟨⟨by show (-9223372036854775808 : Int) ≤ (k : Int); omega, by show (k : Int) ≤ 9223372036854775807; omega⟩, ?_⟩
    show (wordsL n [Lib.itoa (k : Int)]).length ≤ 200000
    rw [words_len]
    simp only [sumN]
    omega
end Go.Proofs.YthehgcmhcioffaaGreatDoor
