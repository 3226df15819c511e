import Derived.Test.YthehgcmhcioffaaGreatDoorMg3
import Derived.Test.YthehgcmhcioffaaGreatDoorMg4
import Derived.Test.YthehgcmhcioffaaGreatDoorMg11
import Derived.Test.YthehgcmhcioffaaGreatDoorMg20
namespace Go.Proofs.YthehgcmhcioffaaGreatDoor
set_option maxHeartbeats 64000000
set_option maxRecDepth 100000
open Go.RowKit Go.Lib
def DocV (lo : Nat) (o : Out Md) (e : Ending) (w' : World) : Prop :=
  match o with
  | .ok md _ _ => ∃ vd vb B cs, e = .returned (.tuple #[.agg #[vd, vb], .int .i64 0, .int .i64 0]) ∧ lo ≤ B ∧ w'.ownsRow B 69 2 vd md.1.length (declV md.1) ∧ w'.ownsRow B 39 10 vb md.2.length cs ∧ BndsAt w' (fun g => B ≤ g ∧ some g ≠ vb.ownBlock ∧ some g ≠ vd.ownBlock) md.2 cs
  | .bad er ln => er ≠ 0 ∧ e = .returned (.tuple #[.agg #[.slice none 0 0, .slice none 0 0], .int .i64 er, .int .i64 ln])
theorem doc_shape {lo : Nat} {l : List UInt8} {e : Ending} {w' : World} (h : ParseV lo (lexL l) e w') : DocV lo (modL l) e w' := by
  unfold modL
  cases hR : lexL l with
  | bad k line => rw [hR] at h; exact ⟨lexL_bad hR, h⟩
  | good T =>
    rw [hR] at h
    have hs := parse_sim (lexL_tvs hR)
    obtain ⟨vd, vb, he, hv⟩ := h
    show DocV lo (parseO T) e w'
    cases ho : parseO T with
    | ok md a b =>
      rw [ho] at hs
      obtain ⟨hd, -, -⟩ := hs
      rw [hd] at he hv
      rcases hv with ⟨h0, -⟩ | ⟨-, B, hB, h1, cs, h2, h3⟩
      · exact absurd rfl h0
      · exact ⟨vd, vb, B, cs, he, hB, h1, h2, h3⟩
    | bad er ln =>
      rw [ho] at hs
      obtain ⟨h0, h1, h2⟩ := hs
      rcases hv with ⟨-, rfl, rfl⟩ | ⟨h3, -⟩
      · rw [h1, h2, if_neg h0] at he
        exact ⟨h0, he⟩
      · exact absurd (h1.symm.trans h3) h0
def Told (o : Out Md) (e : Ending) (w' : World) : Prop :=
  match o with
  | .ok md _ _ => ∃ ad cd ab cb, e = .returned (.tuple #[.agg #[.slice ad md.1.length cd, .slice ab md.2.length cb], .int .i64 0, .int .i64 0]) ∧ ModAt w' (fun g => g < w'.heap.size) md ad cd ab cb
  | .bad er ln => er ≠ 0 ∧ e = .returned (.tuple #[.agg #[.slice none 0 0, .slice none 0 0], .int .i64 er, .int .i64 ln])
theorem modL_ok {l : List UInt8} (hl : l.length ≤ 100000) {md : Md} {a : Int} {b : List Tok} (h : modL l = .ok md a b) : MdOk md ∧ sdM md = scM md ∧ FoOk (scM md) := by
  unfold modL at h
  cases hR : lexL l with
  | bad k line => rw [hR] at h; cases h
  | good T =>
    rw [hR] at h
    obtain ⟨-, h2, h3⟩ := lexL_own hR
    have hv := lexL_tvs hR
    have hw := parse_wf hv (by omega) h
    have ht := parse_wt h
    have hs := parse_scope hv (by omega) h
    unfold wtM at ht
    rw [sumN_nB2] at ht
    exact ⟨⟨hw.1, hw.2, by omega⟩, hs⟩
def FoLen (o : Fo) : Prop := ∀ e n, o = some (e, n) → n.length ≤ 100000
theorem FoLen.or {a b : Fo} (ha : FoLen a) (hb : FoLen b) : FoLen (a.or b) := by
  cases a with
  | none => simpa using hb
  | some x => intro e n h; exact ha e n (by simpa using h)
theorem hasF_len {l : List Nm} {n : Nm} (h : n.length ≤ 100000) : FoLen (hasF l n) := by
  intro e m he
  unfold hasF at he
  split at he
  · cases he
  · cases he; exact h
theorem twF_len {l : List Nm} (h : ∀ x, x ∈ l → x.length ≤ 100000) : FoLen (twF l) := by
  intro e m he
  unfold twF at he
  obtain ⟨x, hx, hy⟩ := Option.map_eq_some_iff.1 he
  cases hy
  exact h _ (twiceL_mem _ _ _ hx)
theorem none_len : FoLen none := fun _ _ h => by cases h
theorem bNames_lens {bs : List (Nm × List Nm × Ex)} (h : wfBs bs) : ∀ x, x ∈ bNames bs → x.length ≤ 100000 := fun x hx => (bNames_ok h x hx).2
mutual
theorem scE_len {cs : List Nm} : ∀ (e : Ex) (sc : List Nm), wfE e → FoLen (scE cs sc e)
  | .mk k n f x ps ks bs al, sc, h => by
    unfold wfE at h
    obtain ⟨h1, h2, h3, h4, h5, h6, h7, -⟩ := h
    unfold scE
    split
    · rename_i g; exact hasF_len (h3 (Or.inl g)).2
    split
    · rename_i g; exact (hasF_len (h3 (Or.inr (Or.inl g))).2).or (scEs_len ks sc h5)
    split
    · exact (twF_len (bNames_lens h6)).or ((scBs_len bs _ h6).or (scEs_len ks _ h5))
    split
    · exact (scEs_len ks sc h5).or (scAs_len al sc h7)
    split
    · exact (twF_len (nms_len h4)).or (scEs_len ks _ h5)
    · exact scEs_len ks sc h5
theorem scEs_len {cs : List Nm} : ∀ (l : List Ex) (sc : List Nm), wfEs l → FoLen (scEs cs sc l)
  | [], _, _ => by unfold scEs; exact none_len
  | e :: r, sc, h => by
    unfold wfEs at h
    unfold scEs
    exact (scE_len e sc h.1).or (scEs_len r sc h.2)
theorem scBs_len {cs : List Nm} : ∀ (l : List (Nm × List Nm × Ex)) (sc : List Nm), wfBs l → FoLen (scBs cs sc l)
  | [], _, _ => by unfold scBs; exact none_len
  | (n, ps, e) :: r, sc, h => by
    unfold wfBs at h
    unfold scBs
    exact ((twF_len (nms_len h.1.2.1)).or (scE_len e _ h.1.2.2)).or (scBs_len r sc h.2)
theorem scAs_len {cs : List Nm} : ∀ (l : List (Int × Nm × Bool × Int × List Nm × Ex)) (sc : List Nm), wfAs l → FoLen (scAs cs sc l)
  | [], _, _ => by unfold scAs; exact none_len
  | (k, n, f, x, ns, e) :: r, sc, h => by
    unfold wfAs at h
    unfold scAs
    refine FoLen.or ?_ (scAs_len r sc h.2)
    split
    · rename_i g; exact (hasF_len (h.1.1 (Or.inl g)).2).or ((twF_len (nms_len h.1.2.1.1)).or (scE_len e _ h.1.2.2))
    split
    · exact scE_len e _ h.1.2.2
    · exact scE_len e _ h.1.2.2
end
theorem MdOk.len {m : Md} (hm : MdOk m) : FoLen (scM m) := by
  have hc : ∀ x, x ∈ conNames m → x.length ≤ 100000 := fun x hx => by
    obtain ⟨d, hd, rfl⟩ := List.mem_map.1 hx
    rcases List.mem_append.1 hd with hd | hd
    · simp only [four, List.mem_cons, List.not_mem_nil, or_false] at hd
      rcases hd with rfl | rfl | rfl | rfl <;> decide
    · exact (hm.wd d hd).2
  refine (twF_len hc).or ((twF_len (bNames_lens (wfBs_of hm.wb))).or (FoLen.or ?_ (scBs_len _ _ (wfBs_of hm.wb))))
  split
  · exact none_len
  · intro e n he; cases he; decide
def exText : ByteArray := ⟨#[109, 97, 105, 110, 32, 61, 32, 92, 120, 32, 45, 62, 32, 121, 59]⟩
def exMod : Md := ([], [([109, 97, 105, 110], [], .mk 8 [] false 0 [[120]] [.leaf 1 [121]] [] [])])
theorem parseL_nn (l : List UInt8) : 0 ≤ (parseL l).2.1 := by
  unfold parseL
  split
  · split
    · exact Int.natCast_nonneg _
    · exact Int.le_refl 0
  · split
    · split
      · unfold U
        exact Int.emod_nonneg _ (by decide)
      · exact Int.le_refl 0
    · exact Int.le_refl 0
theorem numT_nn (t : List UInt8) : 0 ≤ (numT t).1.x := by
  unfold numT
  split
  · exact parseL_nn _
  · exact Int.le_refl 0
theorem readL_nn (l : List UInt8) : 0 ≤ (readL l).1.x := by
  unfold readL
  split
  · exact Int.le_refl 0
  · split
    · exact numT_nn _
    · unfold readR
      repeat' split
      all_goals first | exact numT_nn _ | exact Int.le_refl 0
def Nnt (r : List Tok) : Prop := ∀ y, y ∈ r → 0 ≤ y.1.x
theorem lexA_nn : ∀ (f : Nat) (l : List UInt8) (line : Int) (acc T : List (Tk × Int)), Nnt acc → lexA f l line acc = .good T → Nnt T
  | 0, l, line, acc, T, ha, h => by unfold lexA at h; cases h; exact ha
  | f + 1, [], line, acc, T, ha, h => by unfold lexA at h; cases h; exact ha
  | f + 1, c :: r, line, acc, T, ha, h => by
    unfold lexA at h
    split at h
    · exact lexA_nn f _ _ _ _ ha h
    split at h
    · exact lexA_nn f _ _ _ _ ha h
    split at h
    · split at h
      · cases h; exact ha
      · exact lexA_nn f _ _ _ _ ha h
    split at h
    · split at h
      · cases h
      · refine lexA_nn f _ _ _ _ (fun y hy => ?_) h
        rcases List.mem_append.1 hy with hy | hy
        · exact ha y hy
        · rw [List.mem_singleton.1 hy]; exact readL_nn _
    · cases h
theorem lexL_nn {l : List UInt8} {T : List Tok} (h : lexL l = .good T) : Nnt T := lexA_nn _ _ _ _ _ (fun _ h => by cases h) h
def OkN {α : Type} (Q : α → Prop) (o : Out α) : Prop :=
  match o with
  | .ok a _ r => Q a ∧ Nnt r
  | .bad _ _ => True
theorem OkN.bind {α β : Type} {Q : α → Prop} {S : β → Prop} {o : Out α} {f : α → Int → List Tok → Out β} (h : OkN Q o) (hf : ∀ a l r, Q a → Nnt r → OkN S (f a l r)) : OkN S (o.bind f) := by
  cases o with
  | ok a l r => exact hf a l r h.1 h.2
  | bad e l => trivial
theorem okN_suf {α : Type} {p : Par α} (h : Suf p) (l : Int) (r : List Tok) (hr : Nnt r) : OkN (fun _ => True) (p l r) := by
  have hs := h l r
  cases hp : p l r with
  | bad e l => trivial
  | ok a l2 r2 =>
    rw [hp] at hs
    exact ⟨trivial, fun y hy => hr y (hs y hy)⟩
theorem take_nn (l : Int) (r : List Tok) (hr : Nnt r) : OkN (fun t => 0 ≤ t.1.x) (takeO l r) := by
  cases r with
  | nil => trivial
  | cons y r => exact ⟨hr y (List.mem_cons_self ..), fun z hz => hr z (List.mem_cons_of_mem _ hz)⟩
theorem refuse_nn {α : Type} (Q : α → Prop) (e l : Int) (r : List Tok) : OkN Q (refuseO e l r) := by rw [refuseO_eq]; trivial
abbrev Ar (d : Nm × Int) : Prop := 0 ≤ d.2 ∧ d.2 ≤ 24
theorem declsO_nn : ∀ n (acc : List (Nm × Int)) (l : Int) (r : List Tok), Nnt r → (∀ d, d ∈ acc → Ar d) → OkN (fun l => ∀ d, d ∈ l → Ar d) (declsO n acc l r)
  | 0, acc, l, r, h, ha => ⟨ha, h⟩
  | n + 1, acc, l, r, h, ha => by
    unfold declsO
    split
    · refine (take_nn _ _ h).bind fun a l r e h => ?_
      split
      · refine (take_nn _ _ h).bind fun b l2 r2 e2 h => ?_
        split
        · exact refuse_nn _ _ _ _
        · rename_i hc
          refine declsO_nn n _ _ _ h fun d hd => ?_
          rcases List.mem_append.1 hd with hd | hd
          · exact ha d hd
          · rw [List.mem_singleton.1 hd]
            exact ⟨e2, by have := fun q => hc (Or.inr q); show b.1.x ≤ 24; omega⟩
      · exact refuse_nn _ _ _ _
    · exact ⟨ha, h⟩
theorem moduleO_nn : ∀ n cs bs (l : Int) (r : List Tok), Nnt r → (∀ d, d ∈ cs → Ar d) → OkN (fun m : Md => ∀ d, d ∈ m.1 → Ar d) (moduleO n cs bs l r)
  | 0, _, _, _, _, h, hm => ⟨hm, h⟩
  | n + 1, cs, bs, l, r, h, hm => by
    unfold moduleO
    split
    · exact ⟨hm, h⟩
    split
    · refine (take_nn _ _ h).bind fun a l r e h => ?_
      refine (declsO_nn _ [] _ _ h (fun _ h => by cases h)).bind fun d l2 r2 e2 h => ?_
      refine (okN_suf (want_suf _) _ _ h).bind fun b l3 r3 _ h => ?_
      refine moduleO_nn n _ _ _ _ h fun x hx => ?_
      rcases List.mem_append.1 hx with hx | hx
      · exact hm x hx
      · exact e2 x hx
    · refine (okN_suf (bind_suf (expr_suf _ _)) _ _ h).bind fun d l2 r2 e2 h => ?_
      refine (okN_suf (want_suf _) _ _ h).bind fun b l3 r3 _ h => ?_
      exact moduleO_nn n _ _ _ _ h hm
theorem modL_ar {l : List UInt8} {md : Md} {a : Int} {b : List Tok} (h : modL l = .ok md a b) : ∀ d, d ∈ md.1 → Ar d := by
  unfold modL at h
  cases hR : lexL l with
  | bad k line => rw [hR] at h; cases h
  | good T =>
    rw [hR] at h
    have hw := moduleO_nn (T.length + 1) [] [] 1 T (lexL_nn hR) (fun _ h => by cases h)
    have h' : moduleO (T.length + 1) [] [] 1 T = .ok md a b := h
    rw [h'] at hw
    exact hw.1
theorem numT_range {t : List UInt8} {y : Tk} (h : numT t = (y, 0)) : NumF y.x := by
  unfold numT at h
  split at h
  · rename_i g
    injection h with h _
    subst h
    have hb := back (trimPrefix t [35]) (parseL (trimPrefix t [35])).1 (parseL (trimPrefix t [35])).2.1 (by rw [← g])
    exact ⟨hb.1, hb.2.1⟩
  · rename_i g
    injection h with _ h
    exact absurd h (by first | exact g | (intro q; exact g (by simpa using q)) | decide)
theorem own_num {y : Tk} (h : Own y) : NumF y.x := by
  have z : NumF 0 := ⟨Int.le_refl _, by decide⟩
  obtain ⟨c, r, e, -, -, -, hr⟩ := h
  rw [e, one_read] at hr
  unfold oneL at hr
  split at hr
  · split at hr
    · cases hr
    · cases hr; exact z
  split at hr
  · exact numT_range hr
  split at hr
  · split at hr
    · cases hr
    · exact numT_range hr
  split at hr
  · cases hr
  · cases hr; exact z
theorem not_let {c : UInt8} {t : List UInt8} (h1 : ¬ Sm c) (h2 : ¬ Cp c) : isLet (c :: t) = false := by
  unfold isLet
  rw [List.all_cons]
  have : letterB c = false := by
    unfold letterB
    unfold Sm at h1
    unfold Cp at h2
    simp only [Bool.or_eq_false_iff, Bool.and_eq_false_iff, decide_eq_false_iff_not, UInt8.le_iff_toNat_le]
    constructor
    · rcases Nat.lt_or_ge c.toNat 65 with h | h
      · left; show ¬ 65 ≤ c.toNat; omega
      · right; show ¬ c.toNat ≤ 90; omega
    · rcases Nat.lt_or_ge c.toNat 97 with h | h
      · left; show ¬ 97 ≤ c.toNat; omega
      · right; show ¬ c.toNat ≤ 122; omega
  rw [this, Bool.false_and]
theorem not_sml {c : UInt8} (h1 : ¬ Sm c) : smlB c = false := by
  unfold smlB
  unfold Sm at h1
  simp only [Bool.and_eq_false_iff, decide_eq_false_iff_not, UInt8.le_iff_toNat_le]
  rcases Nat.lt_or_ge c.toNat 97 with h | h
  · left; show ¬ 97 ≤ c.toNat; omega
  · right; show ¬ c.toNat ≤ 122; omega
theorem word_let {t : List UInt8} (h : wordF t = some 7) : isLet t = true ∧ ∃ c r, t = c :: r ∧ smlB c = true := by
  unfold wordF kput at h
  repeat' split at h
  all_goals first
    | (rename_i e; subst e; exact ⟨by decide, _, _, rfl, by decide⟩)
    | cases h
theorem ts_of {y : Tk} {c : UInt8} {t : List UInt8} (e : y.t = c :: t) (h : TkOk y c) (hn : NumF y.x) : TS y := by
  cases h with
  | name k s w f x => exact ⟨fun q => by omega, fun q => by omega, fun _ => hn⟩
  | word k s w f x => exact ⟨fun q => by rw [q] at w; exact word_let w, fun q => by omega, fun _ => hn⟩
  | con k s f x => exact ⟨fun q => by omega, fun q => by omega, fun _ => hn⟩
  | num k s => exact ⟨fun q => by omega, fun q => by omega, fun _ => hn⟩
  | sign k ns nc nd nh f x => exact ⟨fun q => by omega, fun _ => ⟨by rw [e]; exact not_let ns nc, c, t, e, not_sml ns⟩, fun _ => hn⟩
structure ShOk (m : Md) : Prop where
  kb : kfBs m.2
  wb : wfBs m.2
  wx : m.1.length + sumN xB2 m.2 ≤ 4096
  ar : ∀ d, d ∈ m.1 → (-9223372036854775808 ≤ d.2 ∧ d.2 ≤ 9223372036854775807) ∧ (declT d).length ≤ 200000
theorem wb_of : ∀ {l : List Bnd}, (∀ b, b ∈ l → wB b) → wfBs l
  | [], _ => by unfold wfBs; trivial
  | (n, ps, e) :: r, h => by
    unfold wfBs
    exact ⟨h _ (List.mem_cons_self ..), wb_of fun b hb => h b (List.mem_cons_of_mem _ hb)⟩
theorem itoa_small : ∀ n : Fin 25, (Lib.itoa (n.val : Int)).length ≤ 2 := by decide +kernel
theorem modL_sh {l : List UInt8} (hl : l.length ≤ 100000) {md : Md} {a : Int} {b : List Tok} (h : modL l = .ok md a b) : ShOk md := by
  have hm := (modL_ok hl h).1
  have har := modL_ar h
  unfold modL at h
  cases hR : lexL l with
  | bad k line => rw [hR] at h; cases h
  | good T =>
    rw [hR] at h
    obtain ⟨ho, h2, -⟩ := lexL_own hR
    have hok := (lexL_ok hR).ok
    have hn : Nts T := fun y hy => by
      obtain ⟨-, c, t, e, hk⟩ := hok y hy
      exact ts_of e hk (own_num (ho y hy))
    have hk := parse_kf hn h
    have hw := parse_wx h
    refine ⟨kfBs_of hk, wb_of hm.wb, by unfold wxM at hw; omega, fun d hd => ?_⟩
    have h1 := har d hd
    have h3 := (hm.wd d hd).2
    obtain ⟨n, x⟩ := d
    have h1 : 0 ≤ x ∧ x ≤ 24 := h1
    have h3 : n.length ≤ 100000 := h3
    obtain ⟨k, rfl⟩ := Int.eq_ofNat_of_zero_le h1.1
    have h4 : (Lib.itoa (k : Int)).length ≤ 2 := itoa_small ⟨k, by omega⟩
    refine ⟨⟨by show (-9223372036854775808 : Int) ≤ (k : Int); omega, by show (k : Int) ≤ 9223372036854775807; omega⟩, ?_⟩
    show (wordsL n [Lib.itoa (k : Int)]).length ≤ 200000
    rw [words_len]
    simp only [sumN]
    omega
def blk (l : List (List UInt8)) : List UInt8 := l.flatMap (fun x => 32 :: x)
theorem blk_words (n : List UInt8) (l : List (List UInt8)) : wordsL n l = n ++ blk l := rfl
theorem blk_step (l : List (List UInt8)) {j : Nat} (h : j < l.length) : blk (l.take (j + 1)) = blk (l.take j) ++ (32 :: l[j]) := by
  unfold blk
  rw [List.take_succ_eq_append_getElem h, List.flatMap_append]
  simp
theorem blk_take (l : List (List UInt8)) (j : Nat) : (blk (l.take j)).length ≤ (blk l).length := by
  have h : blk l = blk (l.take j) ++ blk (l.drop j) := by
    unfold blk
    rw [← List.flatMap_append, List.take_append_drop]
  rw [h, List.length_append]
  omega
theorem dwords_any (l : List Nm) (hl : (blk l).length ≤ 20000000000) (a : Option Addr) (c : Nat) (K : Nat → Prop) (w : World) (hr : RowAt w K 9 1 (.slice a l.length c) l.length (namesV l)) :
    Calls Tryz.prog 19 #[.slice a l.length c] w fun e w' => e = .returned (.string (tx (blk l))) ∧ Below w.heap.size w w' := by
  have hmx := hr.cap
  unfold maxLen at hmx
  have HO := Hd hr
  have HL := Hd (fun j => Nt (blk_take l j) hl)
  clear hr hl
  go_enter Tryz.func19, Tryz.ntmps19
  go_wp2_with fail
  go_loopw [3, 4] (fun s3 s4 wr => ∃ j : Nat, j ≤ l.length ∧ s3 = .string (tx (blk (l.take j))) ∧ s4 = .int .i64 j ∧ Below w.heap.size w wr) (fun _ s4 _ => l.length - (RowKit.intOf s4).toNat)
  case atStart => exact ⟨0, Nat.zero_le _, rfl, rfl, Below.refl _ _⟩
  case round =>
    obtain ⟨j, hj, rfl, rfl, hbr⟩ := hrel
    have HR := Hd hbr
    clear hbr
    by_cases gj : j < l.length
    · have gj' : (j : Int) < (l.length : Int) := by omega
      obtain ⟨g1, o1, ea1, k1, m1', -, ht1⟩ := HO.out.at (by omega)
      subst ea1
      have p0 := later' HR.out (ht1 j _ (namesV_at gj))
      have hl1 := HL.out (j + 1)
      have hl0 := HL.out j
      rw [blk_step l gj, List.length_append, List.length_cons] at hl1
      have HE := Hd (show tx (blk (l.take j)) ++ ⟨#[32]⟩ ++ tx l[j] = tx (blk (l.take (j + 1))) by
        rw [show (⟨#[32]⟩ : ByteArray) = tx [32] from rfl, tx_app, tx_app, blk_step l gj, List.append_assoc]
        rfl)
      have z1 : (tx (blk (l.take j))).size ≤ 20000000000 := by rw [tx_size]; omega
      have z2 : (tx l[j]).size ≤ 20000000000 := by rw [tx_size]; omega
      have hs1 : ¬ 9223372036854775807 < (tx (blk (l.take j))).size + 1 := by omega
      have hs2 : ¬ 9223372036854775807 < (tx (blk (l.take j))).size + 1 + (tx l[j]).size := by omega
      clear ht1 hl1 hl0
      generalize tx (blk (l.take j)) = tj at *
      generalize tx l[j] = tl at *
      have ej : IntKind.i64.wrap ((j : Int) + 1) = (j : Int) + 1 := by rw [IntKind.wrap_i64]; omega
      have b0 : (0 : Int) ≤ (j : Int) := by omega
      go_wp2_with fail
      exact ⟨⟨j + 1, by omega, by rw [HE.out], by go_num, HR.out⟩, by simp [RowKit.intOf]; omega⟩
    · obtain rfl : j = l.length := by omega
      rw [List.take_length]
      go_wp2_with fail
      go_ret
      exact ⟨rfl, HR.out⟩
theorem dnumber_any (f : Bool) (u : Int) (hu : NumF u) (w : World) : Calls Tryz.prog 16 #[.agg #[.bool f, .int .u64 u]] w fun e w' => e = .returned (.string (tx (nTx f u))) ∧ Below w.heap.size w w' := by
  have hx := (Below.refl w.heap.size w).alloc Nr (.cells #[.bool f, .int .u64 u] 33)
  have HX := Hd (Ai hx (BoxW.alloc w #[.bool f, .int .u64 u] 33))
  have HP := Hd (show Calls Tryz.prog 38 #[.agg #[.bool f, .int .u64 u]] (w.alloc (.cells #[.bool f, .int .u64 u] 33)) (fun e w' => e = .returned (.string (tx (printL f u))) ∧ Below (w.alloc (.cells #[.bool f, .int .u64 u] 33)).heap.size (w.alloc (.cells #[.bool f, .int .u64 u] 33)) w') from refPrint_any f u hu.1 hu.2 _)
  have hs := print_neg f u hu
  have hlen := print_len f u hu.1 hu.2
  have hw : (wrap64 u < 0) ↔ ¬ u < 9223372036854775808 := by
    have := hu.1
    have := hu.2
    unfold wrap64
    omega
  unfold nTx
  clear hx
  go_enter Tryz.func16, Tryz.ntmps16
  go_wp2_with fail
  refine HP.out.mono ?_
  rintro e w2 ⟨rfl, hb⟩
  have HB := Hd (Ai (onB' HX.out.1 hb) (HX.out.2.below hb))
  clear hb HP HX
  have c0 : w2.cell? ⟨w.heap.size, 0, none⟩ = some (.bool f) := HB.out.2.1 0 _ rfl
  have c1 : w2.cell? ⟨w.heap.size, 1, none⟩ = some (.int .u64 u) := HB.out.2.1 1 _ rfl
  cases f with
  | true =>
    rw [if_neg (by simp)] at hs
    have HS := Hd hs
    clear hs hw
    go_wp2_with fail
    go_ret
    exact ⟨by rw [HS.out]; rfl, HB.out.1⟩
  | false =>
    by_cases g : u < 9223372036854775808
    · rw [if_neg (by simp; omega)] at hs
      have HS := Hd hs
      have g' : ¬ (9223372036854775808 : Int) ≤ u := by omega
      clear hs hw hlen
      go_wp2_with fail
      go_ret
      exact ⟨by rw [HS.out]; rfl, HB.out.1⟩
    · rw [if_pos ⟨rfl, hw.2 (by omega)⟩] at hs
      have HS := Hd hs
      have g' : (9223372036854775808 : Int) ≤ u := by omega
      have hsz : (tx (printL false u)).size ≤ 1000 := by rw [tx_size]; exact hlen
      clear hs hw hlen
      go_wp2_with fail
      go_ret
      exact ⟨by rw [HS.out]; exact ret_str (by rw [show (⟨#[35]⟩ : ByteArray) = tx [35] from rfl, tx_app]; rfl), HB.out.1⟩
def TdE (x : Ex) : Prop :=
  ∀ (K : Nat → Prop) (W : World) (k : Int) (nm : Nm) (f : Bool) (u : Int) (ap : Option Addr) (np cp : Nat) (ak : Option Addr) (nk ck : Nat) (ab : Option Addr) (nb cb : Nat) (aa : Option Addr) (na ca : Nat), ExAt W K x [.int .i64 k, .string (tx nm), .bool f, .int .u64 u, .slice ap np cp, .slice ak nk ck, .slice ab nb cb, .slice aa na ca] →
    Calls Tryz.prog 9 #[.agg #[.int .i64 k, .string (tx nm), .bool f, .int .u64 u, .slice ap np cp, .slice ak nk ck, .slice ab nb cb, .slice aa na ca]] W fun e w' => e = .returned (.string (tx (shE x))) ∧ Below W.heap.size W w'
theorem datom_any (x : Ex) (hT : TdE x) (hl : (shE x).length ≤ 20000000000) (K : Nat → Prop) (w : World) (k : Int) (nm : Nm) (f : Bool) (u : Int) (ap : Option Addr) (np cp : Nat) (ak : Option Addr) (nk ck : Nat) (ab : Option Addr) (nb cb : Nat) (aa : Option Addr) (na ca : Nat) (hE : ExAt w K x [.int .i64 k, .string (tx nm), .bool f, .int .u64 u, .slice ap np cp, .slice ak nk ck, .slice ab nb cb, .slice aa na ca]) :
    Calls Tryz.prog 18 #[.agg #[.int .i64 k, .string (tx nm), .bool f, .int .u64 u, .slice ap np cp, .slice ak nk ck, .slice ab nb cb, .slice aa na ca]] w fun e w' => e = .returned (.string (tx (atomT x))) ∧ Below w.heap.size w w' := by
  obtain ⟨ps, ks, bl, al, xk, xb, xa, hxx, -, hnk, -⟩ := hE.opened
  have hkd : kindE x = k := by rw [hxx]; rfl
  have hba : bareE x = ((k == 2 || k == 5) && nk == 0) := by rw [hxx, plain_of, hnk]
  have hat : atomT x = if plainE x then shE x else encL (shE x) := rfl
  unfold plainE at hat
  rw [hkd, hba] at hat
  have hx := (Below.refl w.heap.size w).alloc Nr (.cells #[.int .i64 k, .string (tx nm), .bool f, .int .u64 u, .slice ap np cp, .slice ak nk ck, .slice ab nb cb, .slice aa na ca] 37)
  have HT := Hd (hT K _ k nm f u ap np cp ak nk ck ab nb cb aa na ca (hE.blw hx))
  have HX := Hd hx
  have hsz : (tx (shE x)).size ≤ 20000000000 := by rw [tx_size]; exact hl
  have hs1 : ¬ 9223372036854775807 < 1 + (tx (shE x)).size := by omega
  have hs2 : ¬ 9223372036854775807 < 1 + (tx (shE x)).size + 1 := by omega
  have he : (⟨#[40]⟩ ++ tx (shE x) ++ ⟨#[41]⟩ : ByteArray) = tx (encL (shE x)) := by rw [show (⟨#[40]⟩ : ByteArray) = tx [40] from rfl, show (⟨#[41]⟩ : ByteArray) = tx [41] from rfl, tx_app, tx_app]; rfl
  have HE := Hd he
  generalize atomT x = ax at *
  generalize shE x = sx at *
  clear hx hE hT hba hkd hxx hl hnk he
  go_enter Tryz.func18, Tryz.ntmps18
  have fin1 : ∀ (_ : ax = sx), True := fun _ => trivial
  by_cases g : k = 1 ∨ k = 3 ∨ ((k = 2 ∨ k = 5) ∧ nk = 0)
  · have hax : ax = sx := by
      rw [hat]
      rcases g with rfl | rfl | ⟨rfl | rfl, rfl⟩ <;> rfl
    subst hax
    clear hat fin1
    rcases g with rfl | rfl | ⟨rfl | rfl, rfl⟩
    all_goals
      go_wp2_with fail
      refine HT.out.mono ?_
      rintro e w2 ⟨rfl, hb⟩
      have HB := Hd (onB' HX.out hb)
      clear hb HT
      go_wp2_with fail
      go_ret
      exact ⟨rfl, HB.out⟩
  · have g1 : ¬ k = 1 := fun h => g (Or.inl h)
    have g3 : ¬ k = 3 := fun h => g (Or.inr (Or.inl h))
    have hax : ax = encL sx := by
      rw [hat, if_neg]
      intro q
      simp only [Bool.or_eq_true, Bool.and_eq_true, beq_iff_eq] at q
      rcases q with (q | q) | q
      · exact g1 q
      · exact g3 q
      · exact g (Or.inr (Or.inr q))
    subst hax
    clear hat fin1
    by_cases g5 : k = 2 ∨ k = 5
    · have gn : ¬ (nk : Int) = 0 := fun h => g (Or.inr (Or.inr ⟨g5, by omega⟩))
      clear g g1 g3
      rcases g5 with rfl | rfl
      all_goals
        go_wp2_with fail
        refine HT.out.mono ?_
        rintro e w2 ⟨rfl, hb⟩
        have HB := Hd (onB' HX.out hb)
        clear hb HT
        go_wp2_with fail
        go_ret
        exact ⟨by rw [← HE.out]; rfl, HB.out⟩
    · have g2 : ¬ k = 2 := fun h => g5 (Or.inl h)
      have g55 : ¬ k = 5 := fun h => g5 (Or.inr h)
      have e13 : (k == 1 || k == 3) = false := by simp [g1, g3]
      have e25 : (k == 2 || k == 5) = false := by simp [g2, g55]
      clear g g5
      go_wp2_with fail
      refine HT.out.mono ?_
      rintro e w2 ⟨rfl, hb⟩
      have HB := Hd (onB' HX.out hb)
      clear hb HT
      go_wp2_with fail
      go_ret
      exact ⟨by rw [← HE.out]; rfl, HB.out⟩
theorem map_at {α : Type} (G : α → List UInt8) (L : List α) {j : Nat} (h : j < L.length) : (L.map G)[j]'(by rw [List.length_map]; exact h) = G L[j] := by simp
theorem dkids_any (ks : List Ex) (hT : ∀ y, y ∈ ks → TdE y ∧ (shE y).length ≤ 20000000000) (hl : (blk (ks.map atomT)).length ≤ 20000000000) (a : Option Addr) (c : Nat) (K K2 : Nat → Prop) (xs : List Value) (w : World) (hr : RowAt w K 37 8 (.slice a ks.length c) ks.length xs) (ht : ExsAt w K2 ks xs) :
    Calls Tryz.prog 17 #[.slice a ks.length c] w fun e w' => e = .returned (.string (tx (blk (ks.map atomT)))) ∧ Below w.heap.size w w' := by
  have hmx := hr.cap
  unfold maxLen at hmx
  have HO := Hd (Ai hr ht)
  have HL := Hd (fun j => Nt (blk_take (ks.map atomT) j) hl)
  have HT := Hd hT
  clear hr ht hl hT
  go_enter Tryz.func17, Tryz.ntmps17
  go_wp2_with fail
  go_loopw [3, 4] (fun s3 s4 wr => ∃ j : Nat, j ≤ ks.length ∧ s3 = .string (tx (blk ((ks.map atomT).take j))) ∧ s4 = .int .i64 j ∧ Below w.heap.size w wr) (fun _ s4 _ => ks.length - (RowKit.intOf s4).toNat)
  case atStart => exact ⟨0, Nat.zero_le _, rfl, rfl, Below.refl _ _⟩
  case round =>
    obtain ⟨j, hj, rfl, rfl, hbr⟩ := hrel
    have HR := Hd hbr
    clear hbr
    by_cases gj : j < ks.length
    · have gj' : (j : Int) < (ks.length : Int) := by omega
      have gm : j < (ks.map atomT).length := by rw [List.length_map]; exact gj
      obtain ⟨k, nm, f, u, ap, np, cp, ak, nk, ck, ab, nb, cb, aa, na, ca, hE, hc⟩ := HO.out.2.cells j gj
      obtain ⟨g1, o1, ea1, k1, m1', -, ht1⟩ := HO.out.1.at (by omega)
      subst ea1
      have HP := Hd (fun i v h => later' HR.out (ht1 _ _ (hc i v h)))
      have HA := Hd (datom_any ks[j] (HT.out _ (List.getElem_mem gj)).1 (HT.out _ (List.getElem_mem gj)).2 K2 wr k nm f u ap np cp ak nk ck ab nb cb aa na ca (hE.blw HR.out))
      have hl1 := HL.out (j + 1)
      have hl0 := HL.out j
      rw [blk_step _ gm, List.length_append, List.length_cons, map_at atomT ks gj] at hl1
      have HE := Hd (show tx (blk ((ks.map atomT).take j)) ++ ⟨#[32]⟩ ++ tx (atomT ks[j]) = tx (blk ((ks.map atomT).take (j + 1))) by
        rw [show (⟨#[32]⟩ : ByteArray) = tx [32] from rfl, tx_app, tx_app, blk_step _ gm, map_at atomT ks gj, List.append_assoc]
        rfl)
      have z1 : (tx (blk ((ks.map atomT).take j))).size ≤ 20000000000 := by rw [tx_size]; omega
      have z2 : (tx (atomT ks[j])).size ≤ 20000000000 := by rw [tx_size]; omega
      have hs1 : ¬ 9223372036854775807 < (tx (blk ((ks.map atomT).take j))).size + 1 := by omega
      have hs2 : ¬ 9223372036854775807 < (tx (blk ((ks.map atomT).take j))).size + 1 + (tx (atomT ks[j])).size := by omega
      clear ht1 hl1 hl0 hc hE gm
      generalize tx (blk ((ks.map atomT).take j)) = tj at *
      generalize tx (atomT ks[j]) = tl at *
      have p0 : wr.cell? ⟨g1, o1 + j * 8, none⟩ = some (.int .i64 k) := HP.out 0 _ rfl
      have p1 : wr.cell? ⟨g1, o1 + j * 8 + 1, none⟩ = some (.string (tx nm)) := by rw [Nat.add_assoc]; exact HP.out 1 _ rfl
      have p2 : wr.cell? ⟨g1, o1 + j * 8 + 2, none⟩ = some (.bool f) := by rw [Nat.add_assoc]; exact HP.out 2 _ rfl
      have p3 : wr.cell? ⟨g1, o1 + j * 8 + 3, none⟩ = some (.int .u64 u) := by rw [Nat.add_assoc]; exact HP.out 3 _ rfl
      have p4 : wr.cell? ⟨g1, o1 + j * 8 + 4, none⟩ = some (.slice ap np cp) := by rw [Nat.add_assoc]; exact HP.out 4 _ rfl
      have p5 : wr.cell? ⟨g1, o1 + j * 8 + 5, none⟩ = some (.slice ak nk ck) := by rw [Nat.add_assoc]; exact HP.out 5 _ rfl
      have p6 : wr.cell? ⟨g1, o1 + j * 8 + 6, none⟩ = some (.slice ab nb cb) := by rw [Nat.add_assoc]; exact HP.out 6 _ rfl
      have p7 : wr.cell? ⟨g1, o1 + j * 8 + 7, none⟩ = some (.slice aa na ca) := by rw [Nat.add_assoc]; exact HP.out 7 _ rfl
      have ej : IntKind.i64.wrap ((j : Int) + 1) = (j : Int) + 1 := by rw [IntKind.wrap_i64]; omega
      have b0 : (0 : Int) ≤ (j : Int) := by omega
      go_wp2_with fail
      refine HA.out.mono ?_
      rintro e w2 ⟨rfl, hb⟩
      have HB := Hd (onB' HR.out hb)
      clear hb HA
      go_wp2_with fail
      exact ⟨⟨j + 1, by omega, by rw [HE.out], by go_num, HB.out⟩, by simp [RowKit.intOf]; omega⟩
    · obtain rfl : j = ks.length := by omega
      rw [show (ks.map atomT).take ks.length = ks.map atomT by rw [← List.length_map (f := atomT), List.take_length]]
      go_wp2_with fail
      go_ret
      exact ⟨rfl, HR.out⟩
theorem ddbind_any (b : Bnd) (hT : TdE b.2.2) (hl : (bindT b).length ≤ 20000000000) (aq : Option Addr) (cq : Nat) (K : Nat → Prop) (w : World) (k : Int) (nm : Nm) (f : Bool) (u : Int) (ap : Option Addr) (np cp : Nat) (ak : Option Addr) (nk ck : Nat) (ab : Option Addr) (nb cb : Nat) (aa : Option Addr) (na ca : Nat) (hQ : RowAt w K 9 1 (.slice aq b.2.1.length cq) b.2.1.length (namesV b.2.1)) (hE : ExAt w K b.2.2 [.int .i64 k, .string (tx nm), .bool f, .int .u64 u, .slice ap np cp, .slice ak nk ck, .slice ab nb cb, .slice aa na ca]) :
    Calls Tryz.prog 20 #[.agg #[.string (tx b.1), .slice aq b.2.1.length cq, .int .i64 k, .string (tx nm), .bool f, .int .u64 u, .slice ap np cp, .slice ak nk ck, .slice ab nb cb, .slice aa na ca]] w fun e w' => e = .returned (.string (tx (bindT b))) ∧ Below w.heap.size w w' := by
  have hx := (Below.refl w.heap.size w).alloc Nr (.cells #[.string (tx b.1), .slice aq b.2.1.length cq, .int .i64 k, .string (tx nm), .bool f, .int .u64 u, .slice ap np cp, .slice ak nk ck, .slice ab nb cb, .slice aa na ca] 39)
  have HX := Hd (Ai hx (BoxW.alloc w #[.string (tx b.1), .slice aq b.2.1.length cq, .int .i64 k, .string (tx nm), .bool f, .int .u64 u, .slice ap np cp, .slice ak nk ck, .slice ab nb cb, .slice aa na ca] 39))
  have hb0 : bindT b = b.1 ++ blk b.2.1 ++ [32, 61, 32] ++ shE b.2.2 := by
    unfold bindT
    rw [blk_words, blk_words]
    unfold blk
    simp
  rw [hb0] at hl ⊢
  simp only [List.length_append] at hl
  have hl2 : (blk b.2.1).length ≤ 20000000000 := by omega
  have HT := Hd (fun (V : World) (hb : Below w.heap.size w V) => hT K V k nm f u ap np cp ak nk ck ab nb cb aa na ca (hE.blw hb))
  have HN := Hd (fun (V : World) (hb : Below w.heap.size w V) => dwords_any b.2.1 hl2 aq cq K V (hQ.blw hb))
  have z1 : (tx b.1).size ≤ 20000000000 := by rw [tx_size]; omega
  have z2 : (tx (blk b.2.1)).size ≤ 20000000000 := by rw [tx_size]; omega
  have z3 : (tx (shE b.2.2)).size ≤ 20000000000 := by rw [tx_size]; omega
  have HE := Hd (show tx b.1 ++ tx (blk b.2.1) ++ ⟨#[32, 61, 32]⟩ ++ tx (shE b.2.2) = tx (b.1 ++ blk b.2.1 ++ [32, 61, 32] ++ shE b.2.2) by rw [show (⟨#[32, 61, 32]⟩ : ByteArray) = tx [32, 61, 32] from rfl, tx_app, tx_app, tx_app])
  generalize tx (b.1 ++ blk b.2.1 ++ [32, 61, 32] ++ shE b.2.2) = R at *
  generalize tx (blk b.2.1) = N at *
  generalize tx (shE b.2.2) = I at *
  generalize tx b.1 = tb at *
  generalize b.2.1.length = lb at *
  have hs1 : ¬ 9223372036854775807 < tb.size + N.size := by omega
  have hs2 : ¬ 9223372036854775807 < tb.size + N.size + 3 := by omega
  have hs3 : ¬ 9223372036854775807 < tb.size + N.size + 3 + I.size := by omega
  have hmf := func_made
  clear hx hE hT hQ hl hl2 hb0
  go_enter Tryz.func20, Tryz.ntmps20
  go_upto_region 1 with fail
  generalize (w.alloc (.cells #[.string tb, .slice aq lb cq, .int .i64 k, .string (tx nm), .bool f, .int .u64 u, .slice ap np cp, .slice ak nk ck, .slice ab nb cb, .slice aa na ca] 39)) = W at *
  have HS := Hd (fun (V : World) (hb : Below W.heap.size W V) => (⟨(HX.out.2.below hb).1 0 _ rfl, (HX.out.2.below hb).1 1 _ rfl, (HX.out.2.below hb).1 2 _ rfl, (HX.out.2.below hb).1 3 _ rfl, (HX.out.2.below hb).1 4 _ rfl, (HX.out.2.below hb).1 5 _ rfl, (HX.out.2.below hb).1 6 _ rfl, (HX.out.2.below hb).1 7 _ rfl, (HX.out.2.below hb).1 8 _ rfl, (HX.out.2.below hb).1 9 _ rfl⟩ : (V.cell? ⟨w.heap.size, 0, none⟩ = some (.string tb) ∧ V.cell? ⟨w.heap.size, 1, none⟩ = some (.slice aq lb cq) ∧ V.cell? ⟨w.heap.size, 2, none⟩ = some (.int .i64 k) ∧ V.cell? ⟨w.heap.size, 3, none⟩ = some (.string (tx nm)) ∧ V.cell? ⟨w.heap.size, 4, none⟩ = some (.bool f) ∧ V.cell? ⟨w.heap.size, 5, none⟩ = some (.int .u64 u) ∧ V.cell? ⟨w.heap.size, 6, none⟩ = some (.slice ap np cp) ∧ V.cell? ⟨w.heap.size, 7, none⟩ = some (.slice ak nk ck) ∧ V.cell? ⟨w.heap.size, 8, none⟩ = some (.slice ab nb cb) ∧ V.cell? ⟨w.heap.size, 9, none⟩ = some (.slice aa na ca))))
  have d0 : W.cell? ⟨w.heap.size, 0, none⟩ = some (.string tb) := HX.out.2.1 0 _ rfl
  have d1 : W.cell? ⟨w.heap.size, 1, none⟩ = some (.slice aq lb cq) := HX.out.2.1 1 _ rfl
  have d2 : W.cell? ⟨w.heap.size, 2, none⟩ = some (.int .i64 k) := HX.out.2.1 2 _ rfl
  have d3 : W.cell? ⟨w.heap.size, 3, none⟩ = some (.string (tx nm)) := HX.out.2.1 3 _ rfl
  have d4 : W.cell? ⟨w.heap.size, 4, none⟩ = some (.bool f) := HX.out.2.1 4 _ rfl
  have d5 : W.cell? ⟨w.heap.size, 5, none⟩ = some (.int .u64 u) := HX.out.2.1 5 _ rfl
  have d6 : W.cell? ⟨w.heap.size, 6, none⟩ = some (.slice ap np cp) := HX.out.2.1 6 _ rfl
  have d7 : W.cell? ⟨w.heap.size, 7, none⟩ = some (.slice ak nk ck) := HX.out.2.1 7 _ rfl
  have d8 : W.cell? ⟨w.heap.size, 8, none⟩ = some (.slice ab nb cb) := HX.out.2.1 8 _ rfl
  have d9 : W.cell? ⟨w.heap.size, 9, none⟩ = some (.slice aa na ca) := HX.out.2.1 9 _ rfl
  go_region_held3 (fun W' => W'.cell? ⟨w.heap.size, 0, none⟩ = some (.string tb) ∧ W'.cell? ⟨w.heap.size, 1, none⟩ = some (.slice aq lb cq) ∧ W'.cell? ⟨w.heap.size, 2, none⟩ = some (.int .i64 k) ∧ W'.cell? ⟨w.heap.size, 3, none⟩ = some (.string (tx nm)) ∧ W'.cell? ⟨w.heap.size, 4, none⟩ = some (.bool f) ∧ W'.cell? ⟨w.heap.size, 5, none⟩ = some (.int .u64 u) ∧ W'.cell? ⟨w.heap.size, 6, none⟩ = some (.slice ap np cp) ∧ W'.cell? ⟨w.heap.size, 7, none⟩ = some (.slice ak nk ck) ∧ W'.cell? ⟨w.heap.size, 8, none⟩ = some (.slice ab nb cb) ∧ W'.cell? ⟨w.heap.size, 9, none⟩ = some (.slice aa na ca)) (first | exact HS.out _ HT5 | exact HS.out _ HN4 | exact HS.out _ Br | go_keep) (first
    | (go_at_call 19
       refine (HN.out _ (onB' HX.out.1 (by first | exact HT5 | exact Br.drew | exact Below.refl _ _))).mono ?_
       rintro e w4 ⟨rfl, hbw4⟩
       have HN4 : Below W.heap.size W w4 := onB' (by first | exact HT5 | exact Br.drew | exact Below.refl _ _) hbw4
       clear hbw4)
    | (go_at_call 9
       refine (HT.out _ (onB' HX.out.1 (by first | exact HN4 | exact Br.drew | exact Below.refl _ _))).mono ?_
       rintro e w5 ⟨rfl, hbw5⟩
       have HT5 : Below W.heap.size W w5 := onB' (by first | exact HN4 | exact Br.drew | exact Below.refl _ _) hbw5
       clear hbw5)
)
  all_goals go_wp2_with fail
  all_goals go_ret
  all_goals exact ⟨by rw [← HE.out]; rfl, onB' HX.out.1 (by first | exact HT5 | exact HN4)⟩
theorem ddalt_num (a : Alt) (hT : TdE a.2.2.2.2.2) (g : a.1 = 1) (hl : (altT a).length ≤ 20000000000) (hu : a.1 = 1 → NumF a.2.2.2.1) (aq : Option Addr) (cq : Nat) (K : Nat → Prop) (w : World) (k : Int) (nm : Nm) (f : Bool) (u : Int) (ap : Option Addr) (np cp : Nat) (ak : Option Addr) (nk ck : Nat) (ab : Option Addr) (nb cb : Nat) (aa : Option Addr) (na ca : Nat) (_ : RowAt w K 9 1 (.slice aq a.2.2.2.2.1.length cq) a.2.2.2.2.1.length (namesV a.2.2.2.2.1)) (hE : ExAt w K a.2.2.2.2.2 [.int .i64 k, .string (tx nm), .bool f, .int .u64 u, .slice ap np cp, .slice ak nk ck, .slice ab nb cb, .slice aa na ca]) :
    Calls Tryz.prog 21 #[.agg #[.int .i64 a.1, .string (tx a.2.1), .bool a.2.2.1, .int .u64 a.2.2.2.1, .slice aq a.2.2.2.2.1.length cq, .int .i64 k, .string (tx nm), .bool f, .int .u64 u, .slice ap np cp, .slice ak nk ck, .slice ab nb cb, .slice aa na ca]] w fun e w' => e = .returned (.string (tx (altT a))) ∧ Below w.heap.size w w' := by
  have hx := (Below.refl w.heap.size w).alloc Nr (.cells #[.int .i64 a.1, .string (tx a.2.1), .bool a.2.2.1, .int .u64 a.2.2.2.1, .slice aq a.2.2.2.2.1.length cq, .int .i64 k, .string (tx nm), .bool f, .int .u64 u, .slice ap np cp, .slice ak nk ck, .slice ab nb cb, .slice aa na ca] 56)
  have HX := Hd (Ai hx (BoxW.alloc w #[.int .i64 a.1, .string (tx a.2.1), .bool a.2.2.1, .int .u64 a.2.2.2.1, .slice aq a.2.2.2.2.1.length cq, .int .i64 k, .string (tx nm), .bool f, .int .u64 u, .slice ap np cp, .slice ak nk ck, .slice ab nb cb, .slice aa na ca] 56))
  have hb0 : altT a = nTx a.2.2.1 a.2.2.2.1 ++ [32, 45, 62, 32] ++ shE a.2.2.2.2.2 := by
    rw [altT_eq, if_pos g, blk_words]
    
    unfold blk
    simp
  rw [hb0] at hl ⊢
  simp only [List.length_append] at hl
  have HT := Hd (fun (V : World) (hb : Below w.heap.size w V) => hT K V k nm f u ap np cp ak nk ck ab nb cb aa na ca (hE.blw hb))
  have HN := Hd (fun (V : World) (_ : Below w.heap.size w V) => dnumber_any a.2.2.1 a.2.2.2.1 (hu g) V)
  have z1 : (tx (nTx a.2.2.1 a.2.2.2.1)).size ≤ 20000000000 := by rw [tx_size]; omega
  have z3 : (tx (shE a.2.2.2.2.2)).size ≤ 20000000000 := by rw [tx_size]; omega
  have HE := Hd (show tx (nTx a.2.2.1 a.2.2.2.1) ++ ⟨#[32, 45, 62, 32]⟩ ++ tx (shE a.2.2.2.2.2) = tx (nTx a.2.2.1 a.2.2.2.1 ++ [32, 45, 62, 32] ++ shE a.2.2.2.2.2) by rw [show (⟨#[32, 45, 62, 32]⟩ : ByteArray) = tx [32, 45, 62, 32] from rfl, tx_app, tx_app])
  generalize tx (nTx a.2.2.1 a.2.2.2.1 ++ [32, 45, 62, 32] ++ shE a.2.2.2.2.2) = R at *
  generalize tx (nTx a.2.2.1 a.2.2.2.1) = N at *
  generalize tx (shE a.2.2.2.2.2) = I at *
  generalize tx a.2.1 = tb at *
  generalize a.2.2.2.2.1.length = lb at *
  have hs1 : ¬ 9223372036854775807 < N.size + 4 := by omega
  have hs2 : ¬ 9223372036854775807 < N.size + 4 + I.size := by omega
  clear hb0 hl hE hT hu
  generalize a.2.2.2.1 = ub at *
  generalize a.2.2.1 = fb at *
  generalize a.1 = kb at *
  subst g
  have hmf := func_made
  clear hx 
  go_enter Tryz.func21, Tryz.ntmps21
  go_upto_region 2 with fail
  generalize (w.alloc (.cells #[.int .i64 1, .string tb, .bool fb, .int .u64 ub, .slice aq lb cq, .int .i64 k, .string (tx nm), .bool f, .int .u64 u, .slice ap np cp, .slice ak nk ck, .slice ab nb cb, .slice aa na ca] 56)) = W at *
  have HS := Hd (fun (V : World) (hb : Below W.heap.size W V) => (⟨(HX.out.2.below hb).1 0 _ rfl, (HX.out.2.below hb).1 1 _ rfl, (HX.out.2.below hb).1 2 _ rfl, (HX.out.2.below hb).1 3 _ rfl, (HX.out.2.below hb).1 4 _ rfl, (HX.out.2.below hb).1 5 _ rfl, (HX.out.2.below hb).1 6 _ rfl, (HX.out.2.below hb).1 7 _ rfl, (HX.out.2.below hb).1 8 _ rfl, (HX.out.2.below hb).1 9 _ rfl, (HX.out.2.below hb).1 10 _ rfl, (HX.out.2.below hb).1 11 _ rfl, (HX.out.2.below hb).1 12 _ rfl⟩ : (V.cell? ⟨w.heap.size, 0, none⟩ = some (.int .i64 1) ∧ V.cell? ⟨w.heap.size, 1, none⟩ = some (.string tb) ∧ V.cell? ⟨w.heap.size, 2, none⟩ = some (.bool fb) ∧ V.cell? ⟨w.heap.size, 3, none⟩ = some (.int .u64 ub) ∧ V.cell? ⟨w.heap.size, 4, none⟩ = some (.slice aq lb cq) ∧ V.cell? ⟨w.heap.size, 5, none⟩ = some (.int .i64 k) ∧ V.cell? ⟨w.heap.size, 6, none⟩ = some (.string (tx nm)) ∧ V.cell? ⟨w.heap.size, 7, none⟩ = some (.bool f) ∧ V.cell? ⟨w.heap.size, 8, none⟩ = some (.int .u64 u) ∧ V.cell? ⟨w.heap.size, 9, none⟩ = some (.slice ap np cp) ∧ V.cell? ⟨w.heap.size, 10, none⟩ = some (.slice ak nk ck) ∧ V.cell? ⟨w.heap.size, 11, none⟩ = some (.slice ab nb cb) ∧ V.cell? ⟨w.heap.size, 12, none⟩ = some (.slice aa na ca))))
  have d0 : W.cell? ⟨w.heap.size, 0, none⟩ = some (.int .i64 1) := HX.out.2.1 0 _ rfl
  have d1 : W.cell? ⟨w.heap.size, 1, none⟩ = some (.string tb) := HX.out.2.1 1 _ rfl
  have d2 : W.cell? ⟨w.heap.size, 2, none⟩ = some (.bool fb) := HX.out.2.1 2 _ rfl
  have d3 : W.cell? ⟨w.heap.size, 3, none⟩ = some (.int .u64 ub) := HX.out.2.1 3 _ rfl
  have d4 : W.cell? ⟨w.heap.size, 4, none⟩ = some (.slice aq lb cq) := HX.out.2.1 4 _ rfl
  have d5 : W.cell? ⟨w.heap.size, 5, none⟩ = some (.int .i64 k) := HX.out.2.1 5 _ rfl
  have d6 : W.cell? ⟨w.heap.size, 6, none⟩ = some (.string (tx nm)) := HX.out.2.1 6 _ rfl
  have d7 : W.cell? ⟨w.heap.size, 7, none⟩ = some (.bool f) := HX.out.2.1 7 _ rfl
  have d8 : W.cell? ⟨w.heap.size, 8, none⟩ = some (.int .u64 u) := HX.out.2.1 8 _ rfl
  have d9 : W.cell? ⟨w.heap.size, 9, none⟩ = some (.slice ap np cp) := HX.out.2.1 9 _ rfl
  have d10 : W.cell? ⟨w.heap.size, 10, none⟩ = some (.slice ak nk ck) := HX.out.2.1 10 _ rfl
  have d11 : W.cell? ⟨w.heap.size, 11, none⟩ = some (.slice ab nb cb) := HX.out.2.1 11 _ rfl
  have d12 : W.cell? ⟨w.heap.size, 12, none⟩ = some (.slice aa na ca) := HX.out.2.1 12 _ rfl
  go_region_held3 (fun W' => W'.cell? ⟨w.heap.size, 0, none⟩ = some (.int .i64 1) ∧ W'.cell? ⟨w.heap.size, 1, none⟩ = some (.string tb) ∧ W'.cell? ⟨w.heap.size, 2, none⟩ = some (.bool fb) ∧ W'.cell? ⟨w.heap.size, 3, none⟩ = some (.int .u64 ub) ∧ W'.cell? ⟨w.heap.size, 4, none⟩ = some (.slice aq lb cq) ∧ W'.cell? ⟨w.heap.size, 5, none⟩ = some (.int .i64 k) ∧ W'.cell? ⟨w.heap.size, 6, none⟩ = some (.string (tx nm)) ∧ W'.cell? ⟨w.heap.size, 7, none⟩ = some (.bool f) ∧ W'.cell? ⟨w.heap.size, 8, none⟩ = some (.int .u64 u) ∧ W'.cell? ⟨w.heap.size, 9, none⟩ = some (.slice ap np cp) ∧ W'.cell? ⟨w.heap.size, 10, none⟩ = some (.slice ak nk ck) ∧ W'.cell? ⟨w.heap.size, 11, none⟩ = some (.slice ab nb cb) ∧ W'.cell? ⟨w.heap.size, 12, none⟩ = some (.slice aa na ca)) (first | exact HS.out _ HT5 | exact HS.out _ HN4 | exact HS.out _ Br | go_keep) (first
    | (go_at_call 16
       refine (HN.out _ (onB' HX.out.1 (by first | exact HT5 | exact Br.drew | exact Below.refl _ _))).mono ?_
       rintro e w4 ⟨rfl, hbw4⟩
       have HN4 : Below W.heap.size W w4 := onB' (by first | exact HT5 | exact Br.drew | exact Below.refl _ _) hbw4
       clear hbw4)
    | (go_at_call 9
       refine (HT.out _ (onB' HX.out.1 (by first | exact HN4 | exact Br.drew | exact Below.refl _ _))).mono ?_
       rintro e w5 ⟨rfl, hbw5⟩
       have HT5 : Below W.heap.size W w5 := onB' (by first | exact HN4 | exact Br.drew | exact Below.refl _ _) hbw5
       clear hbw5)
)
  all_goals go_wp2_with fail
  all_goals go_ret
  all_goals exact ⟨by rw [← HE.out]; rfl, onB' HX.out.1 (by first | exact HT5 | exact HN4)⟩
theorem ddalt_con (a : Alt) (hT : TdE a.2.2.2.2.2) (g : ¬ a.1 = 1) (hl : (altT a).length ≤ 20000000000) (_ : a.1 = 1 → NumF a.2.2.2.1) (aq : Option Addr) (cq : Nat) (K : Nat → Prop) (w : World) (k : Int) (nm : Nm) (f : Bool) (u : Int) (ap : Option Addr) (np cp : Nat) (ak : Option Addr) (nk ck : Nat) (ab : Option Addr) (nb cb : Nat) (aa : Option Addr) (na ca : Nat) (hQ : RowAt w K 9 1 (.slice aq a.2.2.2.2.1.length cq) a.2.2.2.2.1.length (namesV a.2.2.2.2.1)) (hE : ExAt w K a.2.2.2.2.2 [.int .i64 k, .string (tx nm), .bool f, .int .u64 u, .slice ap np cp, .slice ak nk ck, .slice ab nb cb, .slice aa na ca]) :
    Calls Tryz.prog 21 #[.agg #[.int .i64 a.1, .string (tx a.2.1), .bool a.2.2.1, .int .u64 a.2.2.2.1, .slice aq a.2.2.2.2.1.length cq, .int .i64 k, .string (tx nm), .bool f, .int .u64 u, .slice ap np cp, .slice ak nk ck, .slice ab nb cb, .slice aa na ca]] w fun e w' => e = .returned (.string (tx (altT a))) ∧ Below w.heap.size w w' := by
  have hx := (Below.refl w.heap.size w).alloc Nr (.cells #[.int .i64 a.1, .string (tx a.2.1), .bool a.2.2.1, .int .u64 a.2.2.2.1, .slice aq a.2.2.2.2.1.length cq, .int .i64 k, .string (tx nm), .bool f, .int .u64 u, .slice ap np cp, .slice ak nk ck, .slice ab nb cb, .slice aa na ca] 56)
  have HX := Hd (Ai hx (BoxW.alloc w #[.int .i64 a.1, .string (tx a.2.1), .bool a.2.2.1, .int .u64 a.2.2.2.1, .slice aq a.2.2.2.2.1.length cq, .int .i64 k, .string (tx nm), .bool f, .int .u64 u, .slice ap np cp, .slice ak nk ck, .slice ab nb cb, .slice aa na ca] 56))
  have hb0 : altT a = a.2.1 ++ blk a.2.2.2.2.1 ++ [32, 45, 62, 32] ++ shE a.2.2.2.2.2 := by
    rw [altT_eq, if_neg g, blk_words]
    rw [blk_words]
    unfold blk
    simp
  rw [hb0] at hl ⊢
  simp only [List.length_append] at hl
  have hl2 : (blk a.2.2.2.2.1).length ≤ 20000000000 := by omega
  have HT := Hd (fun (V : World) (hb : Below w.heap.size w V) => hT K V k nm f u ap np cp ak nk ck ab nb cb aa na ca (hE.blw hb))
  have HN := Hd (fun (V : World) (hb : Below w.heap.size w V) => dwords_any a.2.2.2.2.1 hl2 aq cq K V (hQ.blw hb))
  have z1 : (tx a.2.1).size ≤ 20000000000 := by rw [tx_size]; omega
  have z2 : (tx (blk a.2.2.2.2.1)).size ≤ 20000000000 := by rw [tx_size]; omega
  have z3 : (tx (shE a.2.2.2.2.2)).size ≤ 20000000000 := by rw [tx_size]; omega
  have HE := Hd (show tx a.2.1 ++ tx (blk a.2.2.2.2.1) ++ ⟨#[32, 45, 62, 32]⟩ ++ tx (shE a.2.2.2.2.2) = tx (a.2.1 ++ blk a.2.2.2.2.1 ++ [32, 45, 62, 32] ++ shE a.2.2.2.2.2) by rw [show (⟨#[32, 45, 62, 32]⟩ : ByteArray) = tx [32, 45, 62, 32] from rfl, tx_app, tx_app, tx_app])
  generalize tx (a.2.1 ++ blk a.2.2.2.2.1 ++ [32, 45, 62, 32] ++ shE a.2.2.2.2.2) = R at *
  generalize tx (blk a.2.2.2.2.1) = N at *
  generalize tx (shE a.2.2.2.2.2) = I at *
  generalize tx a.2.1 = tb at *
  generalize a.2.2.2.2.1.length = lb at *
  have hs0 : ¬ 9223372036854775807 < tb.size + N.size := by omega
  have hs1 : ¬ 9223372036854775807 < tb.size + N.size + 4 := by omega
  have hs2 : ¬ 9223372036854775807 < tb.size + N.size + 4 + I.size := by omega
  clear hb0 hl hE hT hQ
  generalize a.2.2.2.1 = ub at *
  generalize a.2.2.1 = fb at *
  generalize a.1 = kb at *
  skip
  have hmf := func_made
  clear hx 
  go_enter Tryz.func21, Tryz.ntmps21
  go_upto_region 3 with fail
  generalize (w.alloc (.cells #[.int .i64 kb, .string tb, .bool fb, .int .u64 ub, .slice aq lb cq, .int .i64 k, .string (tx nm), .bool f, .int .u64 u, .slice ap np cp, .slice ak nk ck, .slice ab nb cb, .slice aa na ca] 56)) = W at *
  have HS := Hd (fun (V : World) (hb : Below W.heap.size W V) => (⟨(HX.out.2.below hb).1 0 _ rfl, (HX.out.2.below hb).1 1 _ rfl, (HX.out.2.below hb).1 2 _ rfl, (HX.out.2.below hb).1 3 _ rfl, (HX.out.2.below hb).1 4 _ rfl, (HX.out.2.below hb).1 5 _ rfl, (HX.out.2.below hb).1 6 _ rfl, (HX.out.2.below hb).1 7 _ rfl, (HX.out.2.below hb).1 8 _ rfl, (HX.out.2.below hb).1 9 _ rfl, (HX.out.2.below hb).1 10 _ rfl, (HX.out.2.below hb).1 11 _ rfl, (HX.out.2.below hb).1 12 _ rfl⟩ : (V.cell? ⟨w.heap.size, 0, none⟩ = some (.int .i64 kb) ∧ V.cell? ⟨w.heap.size, 1, none⟩ = some (.string tb) ∧ V.cell? ⟨w.heap.size, 2, none⟩ = some (.bool fb) ∧ V.cell? ⟨w.heap.size, 3, none⟩ = some (.int .u64 ub) ∧ V.cell? ⟨w.heap.size, 4, none⟩ = some (.slice aq lb cq) ∧ V.cell? ⟨w.heap.size, 5, none⟩ = some (.int .i64 k) ∧ V.cell? ⟨w.heap.size, 6, none⟩ = some (.string (tx nm)) ∧ V.cell? ⟨w.heap.size, 7, none⟩ = some (.bool f) ∧ V.cell? ⟨w.heap.size, 8, none⟩ = some (.int .u64 u) ∧ V.cell? ⟨w.heap.size, 9, none⟩ = some (.slice ap np cp) ∧ V.cell? ⟨w.heap.size, 10, none⟩ = some (.slice ak nk ck) ∧ V.cell? ⟨w.heap.size, 11, none⟩ = some (.slice ab nb cb) ∧ V.cell? ⟨w.heap.size, 12, none⟩ = some (.slice aa na ca))))
  have d0 : W.cell? ⟨w.heap.size, 0, none⟩ = some (.int .i64 kb) := HX.out.2.1 0 _ rfl
  have d1 : W.cell? ⟨w.heap.size, 1, none⟩ = some (.string tb) := HX.out.2.1 1 _ rfl
  have d2 : W.cell? ⟨w.heap.size, 2, none⟩ = some (.bool fb) := HX.out.2.1 2 _ rfl
  have d3 : W.cell? ⟨w.heap.size, 3, none⟩ = some (.int .u64 ub) := HX.out.2.1 3 _ rfl
  have d4 : W.cell? ⟨w.heap.size, 4, none⟩ = some (.slice aq lb cq) := HX.out.2.1 4 _ rfl
  have d5 : W.cell? ⟨w.heap.size, 5, none⟩ = some (.int .i64 k) := HX.out.2.1 5 _ rfl
  have d6 : W.cell? ⟨w.heap.size, 6, none⟩ = some (.string (tx nm)) := HX.out.2.1 6 _ rfl
  have d7 : W.cell? ⟨w.heap.size, 7, none⟩ = some (.bool f) := HX.out.2.1 7 _ rfl
  have d8 : W.cell? ⟨w.heap.size, 8, none⟩ = some (.int .u64 u) := HX.out.2.1 8 _ rfl
  have d9 : W.cell? ⟨w.heap.size, 9, none⟩ = some (.slice ap np cp) := HX.out.2.1 9 _ rfl
  have d10 : W.cell? ⟨w.heap.size, 10, none⟩ = some (.slice ak nk ck) := HX.out.2.1 10 _ rfl
  have d11 : W.cell? ⟨w.heap.size, 11, none⟩ = some (.slice ab nb cb) := HX.out.2.1 11 _ rfl
  have d12 : W.cell? ⟨w.heap.size, 12, none⟩ = some (.slice aa na ca) := HX.out.2.1 12 _ rfl
  go_region_held3 (fun W' => W'.cell? ⟨w.heap.size, 0, none⟩ = some (.int .i64 kb) ∧ W'.cell? ⟨w.heap.size, 1, none⟩ = some (.string tb) ∧ W'.cell? ⟨w.heap.size, 2, none⟩ = some (.bool fb) ∧ W'.cell? ⟨w.heap.size, 3, none⟩ = some (.int .u64 ub) ∧ W'.cell? ⟨w.heap.size, 4, none⟩ = some (.slice aq lb cq) ∧ W'.cell? ⟨w.heap.size, 5, none⟩ = some (.int .i64 k) ∧ W'.cell? ⟨w.heap.size, 6, none⟩ = some (.string (tx nm)) ∧ W'.cell? ⟨w.heap.size, 7, none⟩ = some (.bool f) ∧ W'.cell? ⟨w.heap.size, 8, none⟩ = some (.int .u64 u) ∧ W'.cell? ⟨w.heap.size, 9, none⟩ = some (.slice ap np cp) ∧ W'.cell? ⟨w.heap.size, 10, none⟩ = some (.slice ak nk ck) ∧ W'.cell? ⟨w.heap.size, 11, none⟩ = some (.slice ab nb cb) ∧ W'.cell? ⟨w.heap.size, 12, none⟩ = some (.slice aa na ca)) (first | exact HS.out _ HT5 | exact HS.out _ HN4 | exact HS.out _ Br | go_keep) (first
    | (go_at_call 19
       refine (HN.out _ (onB' HX.out.1 (by first | exact HT5 | exact Br.drew | exact Below.refl _ _))).mono ?_
       rintro e w4 ⟨rfl, hbw4⟩
       have HN4 : Below W.heap.size W w4 := onB' (by first | exact HT5 | exact Br.drew | exact Below.refl _ _) hbw4
       clear hbw4)
    | (go_at_call 9
       refine (HT.out _ (onB' HX.out.1 (by first | exact HN4 | exact Br.drew | exact Below.refl _ _))).mono ?_
       rintro e w5 ⟨rfl, hbw5⟩
       have HT5 : Below W.heap.size W w5 := onB' (by first | exact HN4 | exact Br.drew | exact Below.refl _ _) hbw5
       clear hbw5)
)
  all_goals go_wp2_with fail
  all_goals go_ret
  all_goals exact ⟨by rw [← HE.out]; rfl, onB' HX.out.1 (by first | exact HT5 | exact HN4)⟩
theorem index_at (c : UInt8) (r : List UInt8) (W : World) : (Instr.index 9 (.string (tx (c :: r))) (.int .i64 0)).run Tryz.prog W = .ok (.int .u8 (c.toNat : Int)) W := by
  rw [run_index_string W 9 (tx (c :: r)) .i64 _ Tryz.underlying9, dif_pos ⟨Int.le_refl 0, by rw [tx_size]; simp only [List.length_cons]; omega⟩]
  rfl
theorem dk1 (nm : Nm) (f : Bool) (u : Int) (ps : List Nm) (ks : List Ex) (bl : List Bnd) (al : List Alt) (ap : Option Addr) (cp : Nat) (ak : Option Addr) (ck : Nat) (ab : Option Addr) (cb : Nat) (aa : Option Addr) (ca : Nat) (_ : Nat → Prop) (_ : List Value) (w : World) :
    Calls Tryz.prog 9 #[.agg #[.int .i64 1, .string (tx nm), .bool f, .int .u64 u, .slice ap ps.length cp, .slice ak ks.length ck, .slice ab bl.length cb, .slice aa al.length ca]] w fun e w' => e = .returned (.string (tx (nm))) ∧ Below w.heap.size w w' := by
  have hx := (Below.refl w.heap.size w).alloc Nr (.cells #[.int .i64 1, .string (tx nm), .bool f, .int .u64 u, .slice ap ps.length cp, .slice ak ks.length ck, .slice ab bl.length cb, .slice aa al.length ca] 37)
  have HX := Hd (Ai hx (BoxW.alloc w #[.int .i64 1, .string (tx nm), .bool f, .int .u64 u, .slice ap ps.length cp, .slice ak ks.length ck, .slice ab bl.length cb, .slice aa al.length ca] 37))
  have hmf := func_made
  clear hx 
  go_enter Tryz.func9, Tryz.ntmps9
  go_wp2_with fail
  go_ret
  exact ⟨rfl, HX.out.1⟩
theorem dk3 (nm : Nm) (f : Bool) (u : Int) (ps : List Nm) (ks : List Ex) (bl : List Bnd) (al : List Alt) (ap : Option Addr) (cp : Nat) (ak : Option Addr) (ck : Nat) (ab : Option Addr) (cb : Nat) (aa : Option Addr) (ca : Nat) (_ : Nat → Prop) (_ : List Value) (w : World) (hu : NumF u) :
    Calls Tryz.prog 9 #[.agg #[.int .i64 3, .string (tx nm), .bool f, .int .u64 u, .slice ap ps.length cp, .slice ak ks.length ck, .slice ab bl.length cb, .slice aa al.length ca]] w fun e w' => e = .returned (.string (tx (nTx f u))) ∧ Below w.heap.size w w' := by
  have hx := (Below.refl w.heap.size w).alloc Nr (.cells #[.int .i64 3, .string (tx nm), .bool f, .int .u64 u, .slice ap ps.length cp, .slice ak ks.length ck, .slice ab bl.length cb, .slice aa al.length ca] 37)
  have HX := Hd (Ai hx (BoxW.alloc w #[.int .i64 3, .string (tx nm), .bool f, .int .u64 u, .slice ap ps.length cp, .slice ak ks.length ck, .slice ab bl.length cb, .slice aa al.length ca] 37))
  have HN := Hd (dnumber_any f u hu (w.alloc (.cells #[.int .i64 3, .string (tx nm), .bool f, .int .u64 u, .slice ap ps.length cp, .slice ak ks.length ck, .slice ab bl.length cb, .slice aa al.length ca] 37)))
  have hmf := func_made
  clear hx 
  go_enter Tryz.func9, Tryz.ntmps9
  go_wp2_with fail
  refine HN.out.mono ?_
  rintro e w2 ⟨rfl, hb⟩
  have HB := Hd (onB' HX.out.1 hb)
  clear hb HN
  go_wp2_with fail
  go_ret
  exact ⟨rfl, HB.out⟩
theorem dk2 (nm : Nm) (f : Bool) (u : Int) (ps : List Nm) (ks : List Ex) (bl : List Bnd) (al : List Alt) (ap : Option Addr) (cp : Nat) (ak : Option Addr) (ck : Nat) (ab : Option Addr) (cb : Nat) (aa : Option Addr) (ca : Nat) (K : Nat → Prop) (xk : List Value) (w : World)  (hT : ∀ y, y ∈ ks → TdE y ∧ (shE y).length ≤ 20000000000) (hl : (wordsL nm (ks.map atomT)).length ≤ 20000000000) (hK : RowAt w K 37 8 (.slice ak ks.length ck) ks.length xk) (tK : ExsAt w K ks xk) :
    Calls Tryz.prog 9 #[.agg #[.int .i64 2, .string (tx nm), .bool f, .int .u64 u, .slice ap ps.length cp, .slice ak ks.length ck, .slice ab bl.length cb, .slice aa al.length ca]] w fun e w' => e = .returned (.string (tx (wordsL nm (ks.map atomT)))) ∧ Below w.heap.size w w' := by
  have hx := (Below.refl w.heap.size w).alloc Nr (.cells #[.int .i64 2, .string (tx nm), .bool f, .int .u64 u, .slice ap ps.length cp, .slice ak ks.length ck, .slice ab bl.length cb, .slice aa al.length ca] 37)
  have HX := Hd (Ai hx (BoxW.alloc w #[.int .i64 2, .string (tx nm), .bool f, .int .u64 u, .slice ap ps.length cp, .slice ak ks.length ck, .slice ab bl.length cb, .slice aa al.length ca] 37))
  rw [blk_words] at hl ⊢
  rw [List.length_append] at hl
  have hl2 : (blk (ks.map atomT)).length ≤ 20000000000 := by omega
  have HN := Hd (fun (V : World) (hb : Below w.heap.size w V) => dkids_any ks hT hl2 ak ck K K xk V (hK.blw hb) (tK.blw hb))
  have z1 : (tx nm).size ≤ 20000000000 := by rw [tx_size]; omega
  have z2 : (tx (blk (ks.map atomT))).size ≤ 20000000000 := by rw [tx_size]; exact hl2
  have HE := Hd (show tx nm ++ tx (blk (ks.map atomT)) = tx (nm ++ blk (ks.map atomT)) by rw [tx_app])
  generalize tx (nm ++ blk (ks.map atomT)) = R at *
  generalize tx (blk (ks.map atomT)) = N at *
  generalize tx nm = tn at *
  have hs1 : ¬ 9223372036854775807 < tn.size + N.size := by omega
  have hmf := func_made
  clear hx hK tK hT hl hl2
  go_enter Tryz.func9, Tryz.ntmps9
  go_upto_region 7 with fail
  generalize (w.alloc (.cells #[.int .i64 2, .string tn, .bool f, .int .u64 u, .slice ap ps.length cp, .slice ak ks.length ck, .slice ab bl.length cb, .slice aa al.length ca] 37)) = W at *
  have HS := Hd (fun (V : World) (hb : Below W.heap.size W V) => (⟨(HX.out.2.below hb).1 0 _ rfl, (HX.out.2.below hb).1 1 _ rfl, (HX.out.2.below hb).1 2 _ rfl, (HX.out.2.below hb).1 3 _ rfl, (HX.out.2.below hb).1 4 _ rfl, (HX.out.2.below hb).1 5 _ rfl, (HX.out.2.below hb).1 6 _ rfl, (HX.out.2.below hb).1 7 _ rfl⟩ : (V.cell? ⟨w.heap.size, 0, none⟩ = some (.int .i64 2) ∧ V.cell? ⟨w.heap.size, 1, none⟩ = some (.string tn) ∧ V.cell? ⟨w.heap.size, 2, none⟩ = some (.bool f) ∧ V.cell? ⟨w.heap.size, 3, none⟩ = some (.int .u64 u) ∧ V.cell? ⟨w.heap.size, 4, none⟩ = some (.slice ap ps.length cp) ∧ V.cell? ⟨w.heap.size, 5, none⟩ = some (.slice ak ks.length ck) ∧ V.cell? ⟨w.heap.size, 6, none⟩ = some (.slice ab bl.length cb) ∧ V.cell? ⟨w.heap.size, 7, none⟩ = some (.slice aa al.length ca))))
  have d0 : W.cell? ⟨w.heap.size, 0, none⟩ = some (.int .i64 2) := HX.out.2.1 0 _ rfl
  have d1 : W.cell? ⟨w.heap.size, 1, none⟩ = some (.string tn) := HX.out.2.1 1 _ rfl
  have d2 : W.cell? ⟨w.heap.size, 2, none⟩ = some (.bool f) := HX.out.2.1 2 _ rfl
  have d3 : W.cell? ⟨w.heap.size, 3, none⟩ = some (.int .u64 u) := HX.out.2.1 3 _ rfl
  have d4 : W.cell? ⟨w.heap.size, 4, none⟩ = some (.slice ap ps.length cp) := HX.out.2.1 4 _ rfl
  have d5 : W.cell? ⟨w.heap.size, 5, none⟩ = some (.slice ak ks.length ck) := HX.out.2.1 5 _ rfl
  have d6 : W.cell? ⟨w.heap.size, 6, none⟩ = some (.slice ab bl.length cb) := HX.out.2.1 6 _ rfl
  have d7 : W.cell? ⟨w.heap.size, 7, none⟩ = some (.slice aa al.length ca) := HX.out.2.1 7 _ rfl
  go_region_held3 (fun W' => W'.cell? ⟨w.heap.size, 0, none⟩ = some (.int .i64 2) ∧ W'.cell? ⟨w.heap.size, 1, none⟩ = some (.string tn) ∧ W'.cell? ⟨w.heap.size, 2, none⟩ = some (.bool f) ∧ W'.cell? ⟨w.heap.size, 3, none⟩ = some (.int .u64 u) ∧ W'.cell? ⟨w.heap.size, 4, none⟩ = some (.slice ap ps.length cp) ∧ W'.cell? ⟨w.heap.size, 5, none⟩ = some (.slice ak ks.length ck) ∧ W'.cell? ⟨w.heap.size, 6, none⟩ = some (.slice ab bl.length cb) ∧ W'.cell? ⟨w.heap.size, 7, none⟩ = some (.slice aa al.length ca)) (first | exact HS.out _ HN4 | exact HS.out _ Br | go_keep) (first
    | (go_at_call 17
       refine (HN.out _ (onB' HX.out.1 (by first  | exact Br.drew | exact Below.refl _ _))).mono ?_
       rintro e w4 ⟨rfl, hbw4⟩
       have HN4 : Below W.heap.size W w4 := onB' (by first  | exact Br.drew | exact Below.refl _ _) hbw4
       clear hbw4)
)
  all_goals go_wp2_with fail
  all_goals go_ret
  all_goals exact ⟨by rw [← HE.out]; rfl, onB' HX.out.1 HN4⟩
theorem dk5w (nm : Nm) (f : Bool) (u : Int) (ps : List Nm) (ks : List Ex) (bl : List Bnd) (al : List Alt) (ap : Option Addr) (cp : Nat) (ak : Option Addr) (ck : Nat) (ab : Option Addr) (cb : Nat) (aa : Option Addr) (ca : Nat) (K : Nat → Prop) (xk : List Value) (w : World) (hc : ∃ c r, nm = c :: r ∧ smlB c = true) (hT : ∀ y, y ∈ ks → TdE y ∧ (shE y).length ≤ 20000000000) (hl : (wordsL nm (ks.map atomT)).length ≤ 20000000000) (hK : RowAt w K 37 8 (.slice ak ks.length ck) ks.length xk) (tK : ExsAt w K ks xk) :
    Calls Tryz.prog 9 #[.agg #[.int .i64 5, .string (tx nm), .bool f, .int .u64 u, .slice ap ps.length cp, .slice ak ks.length ck, .slice ab bl.length cb, .slice aa al.length ca]] w fun e w' => e = .returned (.string (tx (wordsL nm (ks.map atomT)))) ∧ Below w.heap.size w w' := by
  have hx := (Below.refl w.heap.size w).alloc Nr (.cells #[.int .i64 5, .string (tx nm), .bool f, .int .u64 u, .slice ap ps.length cp, .slice ak ks.length ck, .slice ab bl.length cb, .slice aa al.length ca] 37)
  have HX := Hd (Ai hx (BoxW.alloc w #[.int .i64 5, .string (tx nm), .bool f, .int .u64 u, .slice ap ps.length cp, .slice ak ks.length ck, .slice ab bl.length cb, .slice aa al.length ca] 37))
  rw [blk_words] at hl ⊢
  rw [List.length_append] at hl
  have hl2 : (blk (ks.map atomT)).length ≤ 20000000000 := by omega
  have HN := Hd (fun (V : World) (hb : Below w.heap.size w V) => dkids_any ks hT hl2 ak ck K K xk V (hK.blw hb) (tK.blw hb))
  have z1 : (tx nm).size ≤ 20000000000 := by rw [tx_size]; omega
  have z2 : (tx (blk (ks.map atomT))).size ≤ 20000000000 := by rw [tx_size]; exact hl2
  have HE := Hd (show tx nm ++ tx (blk (ks.map atomT)) = tx (nm ++ blk (ks.map atomT)) by rw [tx_app])
  obtain ⟨c, r, hnm, hsm⟩ := hc
  have hix : ∀ V, (Instr.index 9 (.string (tx nm)) (.int .i64 0)).run Tryz.prog V = .ok (.int .u8 (c.toNat : Int)) V := fun V => by rw [hnm]; exact index_at c r V
  have hc1 : (97 : Int) ≤ (c.toNat : Int) ∧ (c.toNat : Int) ≤ 122 := by
    unfold smlB at hsm
    simp only [Bool.and_eq_true, decide_eq_true_eq, UInt8.le_iff_toNat_le] at hsm
    have h1 : 97 ≤ c.toNat := hsm.1
    have h2 : c.toNat ≤ 122 := hsm.2
    omega
  obtain ⟨hc1, hc2⟩ := hc1
  clear hnm hsm
  generalize tx (nm ++ blk (ks.map atomT)) = R at *
  generalize tx (blk (ks.map atomT)) = N at *
  generalize tx nm = tn at *
  have hs1 : ¬ 9223372036854775807 < tn.size + N.size := by omega
  have hmf := func_made
  clear hx hK tK hT hl hl2
  go_enter Tryz.func9, Tryz.ntmps9
  go_upto_region 10 with fail
  generalize (w.alloc (.cells #[.int .i64 5, .string tn, .bool f, .int .u64 u, .slice ap ps.length cp, .slice ak ks.length ck, .slice ab bl.length cb, .slice aa al.length ca] 37)) = W at *
  have HS := Hd (fun (V : World) (hb : Below W.heap.size W V) => (⟨(HX.out.2.below hb).1 0 _ rfl, (HX.out.2.below hb).1 1 _ rfl, (HX.out.2.below hb).1 2 _ rfl, (HX.out.2.below hb).1 3 _ rfl, (HX.out.2.below hb).1 4 _ rfl, (HX.out.2.below hb).1 5 _ rfl, (HX.out.2.below hb).1 6 _ rfl, (HX.out.2.below hb).1 7 _ rfl⟩ : (V.cell? ⟨w.heap.size, 0, none⟩ = some (.int .i64 5) ∧ V.cell? ⟨w.heap.size, 1, none⟩ = some (.string tn) ∧ V.cell? ⟨w.heap.size, 2, none⟩ = some (.bool f) ∧ V.cell? ⟨w.heap.size, 3, none⟩ = some (.int .u64 u) ∧ V.cell? ⟨w.heap.size, 4, none⟩ = some (.slice ap ps.length cp) ∧ V.cell? ⟨w.heap.size, 5, none⟩ = some (.slice ak ks.length ck) ∧ V.cell? ⟨w.heap.size, 6, none⟩ = some (.slice ab bl.length cb) ∧ V.cell? ⟨w.heap.size, 7, none⟩ = some (.slice aa al.length ca))))
  have d0 : W.cell? ⟨w.heap.size, 0, none⟩ = some (.int .i64 5) := HX.out.2.1 0 _ rfl
  have d1 : W.cell? ⟨w.heap.size, 1, none⟩ = some (.string tn) := HX.out.2.1 1 _ rfl
  have d2 : W.cell? ⟨w.heap.size, 2, none⟩ = some (.bool f) := HX.out.2.1 2 _ rfl
  have d3 : W.cell? ⟨w.heap.size, 3, none⟩ = some (.int .u64 u) := HX.out.2.1 3 _ rfl
  have d4 : W.cell? ⟨w.heap.size, 4, none⟩ = some (.slice ap ps.length cp) := HX.out.2.1 4 _ rfl
  have d5 : W.cell? ⟨w.heap.size, 5, none⟩ = some (.slice ak ks.length ck) := HX.out.2.1 5 _ rfl
  have d6 : W.cell? ⟨w.heap.size, 6, none⟩ = some (.slice ab bl.length cb) := HX.out.2.1 6 _ rfl
  have d7 : W.cell? ⟨w.heap.size, 7, none⟩ = some (.slice aa al.length ca) := HX.out.2.1 7 _ rfl
  go_region_held3 (fun W' => W'.cell? ⟨w.heap.size, 0, none⟩ = some (.int .i64 5) ∧ W'.cell? ⟨w.heap.size, 1, none⟩ = some (.string tn) ∧ W'.cell? ⟨w.heap.size, 2, none⟩ = some (.bool f) ∧ W'.cell? ⟨w.heap.size, 3, none⟩ = some (.int .u64 u) ∧ W'.cell? ⟨w.heap.size, 4, none⟩ = some (.slice ap ps.length cp) ∧ W'.cell? ⟨w.heap.size, 5, none⟩ = some (.slice ak ks.length ck) ∧ W'.cell? ⟨w.heap.size, 6, none⟩ = some (.slice ab bl.length cb) ∧ W'.cell? ⟨w.heap.size, 7, none⟩ = some (.slice aa al.length ca)) (first | exact HS.out _ HN4 | exact HS.out _ Br | go_keep) (first
    | (go_at_call 17
       refine (HN.out _ (onB' HX.out.1 (by first  | exact Br.drew | exact Below.refl _ _))).mono ?_
       rintro e w4 ⟨rfl, hbw4⟩
       have HN4 : Below W.heap.size W w4 := onB' (by first  | exact Br.drew | exact Below.refl _ _) hbw4
       clear hbw4)
)
  all_goals go_wp2_with fail
  all_goals go_ret
  all_goals exact ⟨by rw [← HE.out]; rfl, onB' HX.out.1 HN4⟩
end Go.Proofs.YthehgcmhcioffaaGreatDoor
