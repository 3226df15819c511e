import Derived.Deep.QuietTactic
import Derived.Test.YtdjcdecbmeickaaMg12
import Derived.Test.YtdjcdecbmeickaaMg18
namespace Go.Proofs.Ytdjcdecbmeickaa
set_option maxHeartbeats 64000000
set_option maxRecDepth 100000
open Go.RowKit Go.Lib
def DocV (lo : Nat) (o : Out Md) (e : Ending) (w' : World) : Prop :=
  match o with
  | .ok md _ _ => ∃ vd vb B cs, e = .returned (.tuple #[.agg #[vd, vb], .int .i64 0, .int .i64 0]) ∧ lo ≤ B ∧ w'.ownsRow B 66 2 vd md.1.length (declV md.1) ∧ w'.ownsRow B 36 10 vb md.2.length cs ∧ BndsAt w' (fun g => B ≤ g ∧ some g ≠ vb.ownBlock ∧ some g ≠ vd.ownBlock) md.2 cs
  | .bad er ln => er ≠ 0 ∧ e = .returned (.tuple #[.agg #[.slice none 0 0, .slice none 0 0], .int .i64 er, .int .i64 ln])
theorem doc_shape {lo : Nat} {l : List UInt8} {e : Ending} {w' : World} (h : ParseV lo (lexL l) e w') : DocV lo (modL l) e w' := by
  unfold modL
  cases hR : lexL l with
  | bad k line => rw [hR] at h; exact ⟨lexL_bad hR, h⟩
  | good T =>
    rw [hR] at h
    have hs := parse_sim (lexL_tvs hR)
    obtain ⟨vd, vb, he, hv⟩ := h
    show DocV lo (parseO T) e w'
    cases ho : parseO T with
    | ok md a b =>
      rw [ho] at hs
      obtain ⟨hd, -, -⟩ := hs
      rw [hd] at he hv
      rcases hv with ⟨h0, -⟩ | ⟨-, B, hB, h1, cs, h2, h3⟩
      · exact absurd rfl h0
      · exact ⟨vd, vb, B, cs, he, hB, h1, h2, h3⟩
    | bad er ln =>
      rw [ho] at hs
      obtain ⟨h0, h1, h2⟩ := hs
      rcases hv with ⟨-, rfl, rfl⟩ | ⟨h3, -⟩
      · rw [h1, h2, if_neg h0] at he
        exact ⟨h0, he⟩
      · exact absurd (h1.symm.trans h3) h0
def Told (o : Out Md) (e : Ending) (w' : World) : Prop :=
  match o with
  | .ok md _ _ => ∃ ad cd ab cb, e = .returned (.tuple #[.agg #[.slice ad md.1.length cd, .slice ab md.2.length cb], .int .i64 0, .int .i64 0]) ∧ ModAt w' (fun g => g < w'.heap.size) md ad cd ab cb
  | .bad er ln => er ≠ 0 ∧ e = .returned (.tuple #[.agg #[.slice none 0 0, .slice none 0 0], .int .i64 er, .int .i64 ln])
theorem told_any (s : ByteArray) (hs : s.size ≤ 100000) (w : World) : Calls Try.prog 15 #[.string s] w fun e w' => Told (modL s.data.toList) e w' ∧ Below w.heap.size w w' := by
  refine (dparse_any s hs w).mono fun e w' hh => ⟨?_, hh.1⟩
  have h := doc_shape hh.2
  cases ho : modL s.data.toList with
  | bad er ln => rw [ho] at h; exact h
  | ok md a b =>
    rw [ho] at h
    obtain ⟨vd, vb, B, cs, rfl, -, h1, h2, h3⟩ := h
    obtain ⟨ad, cd, rfl, -⟩ := own_shape h1
    obtain ⟨ab, cb, rfl, -⟩ := own_shape h2
    exact ⟨ad, cd, ab, cb, rfl, (RowAt.of (K := fun _ => True) h1 (fun _ _ => trivial)).low Br, cs, (RowAt.of (K := fun _ => True) h2 (fun _ _ => trivial)).low Br, h3.move fun g _ lt => ⟨lt, rfl⟩⟩
theorem modL_ok {l : List UInt8} (hl : l.length ≤ 100000) {md : Md} {a : Int} {b : List Tok} (h : modL l = .ok md a b) : MdOk md ∧ sdM md = scM md ∧ FoOk (scM md) := by
  unfold modL at h
  cases hR : lexL l with
  | bad k line => rw [hR] at h; cases h
  | good T =>
    rw [hR] at h
    obtain ⟨-, h2, h3⟩ := lexL_own hR
    have hv := lexL_tvs hR
    have hw := parse_wf hv (by omega) h
    have ht := parse_wt h
    have hs := parse_scope hv (by omega) h
    unfold wtM at ht
    rw [sumN_nB2] at ht
    exact ⟨⟨hw.1, hw.2, by omega⟩, hs⟩
def FoLen (o : Fo) : Prop := ∀ e n, o = some (e, n) → n.length ≤ 100000
theorem FoLen.or {a b : Fo} (ha : FoLen a) (hb : FoLen b) : FoLen (a.or b) := by
  cases a with
  | none => simpa using hb
  | some x => intro e n h; exact ha e n (by simpa using h)
theorem hasF_len {l : List Nm} {n : Nm} (h : n.length ≤ 100000) : FoLen (hasF l n) := by
  intro e m he
  unfold hasF at he
  split at he
  · cases he
  · cases he; exact h
theorem twF_len {l : List Nm} (h : ∀ x, x ∈ l → x.length ≤ 100000) : FoLen (twF l) := by
  intro e m he
  unfold twF at he
  obtain ⟨x, hx, hy⟩ := Option.map_eq_some_iff.1 he
  cases hy
  exact h _ (twiceL_mem _ _ _ hx)
theorem none_len : FoLen none := fun _ _ h => by cases h
theorem bNames_lens {bs : List (Nm × List Nm × Ex)} (h : wfBs bs) : ∀ x, x ∈ bNames bs → x.length ≤ 100000 := fun x hx => (bNames_ok h x hx).2
mutual
theorem scE_len {cs : List Nm} : ∀ (e : Ex) (sc : List Nm), wfE e → FoLen (scE cs sc e)
  | .mk k n f x ps ks bs al, sc, h => by
    unfold wfE at h
    obtain ⟨h1, h2, h3, h4, h5, h6, h7, -⟩ := h
    unfold scE
    split
    · rename_i g; exact hasF_len (h3 (Or.inl g)).2
    split
    · rename_i g; exact (hasF_len (h3 (Or.inr (Or.inl g))).2).or (scEs_len ks sc h5)
    split
    · exact (twF_len (bNames_lens h6)).or ((scBs_len bs _ h6).or (scEs_len ks _ h5))
    split
    · exact (scEs_len ks sc h5).or (scAs_len al sc h7)
    split
    · exact (twF_len (nms_len h4)).or (scEs_len ks _ h5)
    · exact scEs_len ks sc h5
theorem scEs_len {cs : List Nm} : ∀ (l : List Ex) (sc : List Nm), wfEs l → FoLen (scEs cs sc l)
  | [], _, _ => by unfold scEs; exact none_len
  | e :: r, sc, h => by
    unfold wfEs at h
    unfold scEs
    exact (scE_len e sc h.1).or (scEs_len r sc h.2)
theorem scBs_len {cs : List Nm} : ∀ (l : List (Nm × List Nm × Ex)) (sc : List Nm), wfBs l → FoLen (scBs cs sc l)
  | [], _, _ => by unfold scBs; exact none_len
  | (n, ps, e) :: r, sc, h => by
    unfold wfBs at h
    unfold scBs
    exact ((twF_len (nms_len h.1.2.1)).or (scE_len e _ h.1.2.2)).or (scBs_len r sc h.2)
theorem scAs_len {cs : List Nm} : ∀ (l : List (Int × Nm × Bool × Int × List Nm × Ex)) (sc : List Nm), wfAs l → FoLen (scAs cs sc l)
  | [], _, _ => by unfold scAs; exact none_len
  | (k, n, f, x, ns, e) :: r, sc, h => by
    unfold wfAs at h
    unfold scAs
    refine FoLen.or ?_ (scAs_len r sc h.2)
    split
    · rename_i g; exact (hasF_len (h.1.1 (Or.inl g)).2).or ((twF_len (nms_len h.1.2.1.1)).or (scE_len e _ h.1.2.2))
    split
    · exact scE_len e _ h.1.2.2
    · exact scE_len e _ h.1.2.2
end
theorem MdOk.len {m : Md} (hm : MdOk m) : FoLen (scM m) := by
  have hc : ∀ x, x ∈ conNames m → x.length ≤ 100000 := fun x hx => by
    obtain ⟨d, hd, rfl⟩ := List.mem_map.1 hx
    rcases List.mem_append.1 hd with hd | hd
    · simp only [four, List.mem_cons, List.not_mem_nil, or_false] at hd
      rcases hd with rfl | rfl | rfl | rfl <;> decide
    · exact (hm.wd d hd).2
  refine (twF_len hc).or ((twF_len (bNames_lens (wfBs_of hm.wb))).or (FoLen.or ?_ (scBs_len _ _ (wfBs_of hm.wb))))
  split
  · exact none_len
  · intro e n he; cases he; decide
def exText : ByteArray := ⟨#[109, 97, 105, 110, 32, 61, 32, 92, 120, 32, 45, 62, 32, 121, 59]⟩
def exMod : Md := ([], [([109, 97, 105, 110], [], .mk 8 [] false 0 [[120]] [.leaf 1 [121]] [] [])])
def bindsL (l : List UInt8) : List Bnd := match modL l with | .ok md _ _ => md.2 | .bad _ _ => []
theorem bindsL_ok {l : List UInt8} (hl : l.length ≤ 100000) : (∀ b, b ∈ bindsL l → wB b) ∧ (bindsL l).length + sumN nB (bindsL l) ≤ 100000 := by
  unfold bindsL
  cases h : modL l with
  | bad er ln => exact ⟨(fun b hb => by cases hb), Nat.zero_le _⟩
  | ok md a b =>
    obtain ⟨h1, -, -⟩ := modL_ok hl h
    have h2 := h1.wt
    exact ⟨h1.wb, show md.2.length + sumN nB md.2 ≤ 100000 by omega⟩
theorem law_told (s : ByteArray) (hs : s.size ≤ 100000) (w : World) : Calls Try.prog 9 #[.string s] w fun e w' =>
    (∃ ab cb cs, e = .returned (.slice ab (bindsL s.data.toList).length cb) ∧ RowAt w' (fun g => g < w'.heap.size) 36 10 (.slice ab (bindsL s.data.toList).length cb) (bindsL s.data.toList).length cs ∧ BndsAt w' (fun g => g < w'.heap.size) (bindsL s.data.toList) cs) ∧ Below w.heap.size w w' := by
  have HT := Hd (told_any s hs w)
  go_enter Try.func9, Try.ntmps9
  go_wp2_with fail
  refine HT.out.mono ?_
  rintro e w2 ⟨ht, hb⟩
  have HB := Hd hb
  clear hb HT
  cases ho : modL s.data.toList with
  | bad er ln =>
    have HL := Hd (show bindsL s.data.toList = [] by unfold bindsL; rw [ho])
    rw [ho] at ht
    obtain ⟨-, rfl⟩ := ht
    have HX := Hd ((Below.refl w2.heap.size w2).alloc Nr (.cells #[.slice none 0 0, .slice none 0 0] 41))
    clear ho
    go_wp2_with fail
    go_ret
    rw [HL.out]
    exact ⟨⟨none, 0, [], rfl, row_none _ _ _ _, .nil⟩, onB' HB.out HX.out⟩
  | ok md a b =>
    have HL := Hd (show bindsL s.data.toList = md.2 by unfold bindsL; rw [ho])
    rw [ho] at ht
    obtain ⟨ad, cd, ab, cb, rfl, hm⟩ := ht
    have hx := (Below.refl w2.heap.size w2).alloc Nr (.cells #[.slice ad md.1.length cd, .slice ab md.2.length cb] 41)
    obtain ⟨h1, cs, h2, h3⟩ := hm
    have HX := Hd (Ai hx (Ai h2 h3))
    clear ho hx h1 h2 h3
    go_wp2_with fail
    go_ret
    have hz := HX.out.1.size
    rw [HL.out]
    exact ⟨⟨ab, cb, cs, rfl, HX.out.2.1.move fun g hk lt => ⟨Nat.lt_of_lt_of_le lt hz, HX.out.1.block g lt⟩, HX.out.2.2.move fun g hk lt => ⟨Nat.lt_of_lt_of_le lt hz, HX.out.1.block g lt⟩⟩, onB' HB.out HX.out.1⟩
theorem texts_any (l1 l2 : List Nm) (a1 : Option Addr) (c1 : Nat) (a2 : Option Addr) (c2 : Nat) (K1 K2 : Nat → Prop) (w : World) (h1 : RowAt w K1 9 1 (.slice a1 l1.length c1) l1.length (namesV l1)) (h2 : RowAt w K2 9 1 (.slice a2 l2.length c2) l2.length (namesV l2)) :
    Calls Try.prog 10 #[.slice a1 l1.length c1, .slice a2 l2.length c2] w fun e w' => e = .returned (.bool (decide (l1 = l2))) ∧ Below w.heap.size w w' := by
  have HO := Hd (Ai h1 h2)
  have hm1 := h1.cap
  have hm2 := h2.cap
  unfold maxLen at hm1 hm2
  clear h1 h2
  go_enter Try.func10, Try.ntmps10
  by_cases hl : l1.length = l2.length
  · have hl' : (l1.length : Int) = (l2.length : Int) := by omega
    have HL := Hd hl
    clear hl
    go_wp2_with fail
    go_loopw [5] (fun s wr => ∃ j : Nat, j ≤ l1.length ∧ s = .int .i64 j ∧ Below w.heap.size w wr ∧ l1.take j = l2.take j) (fun s _ => l1.length - (RowKit.intOf s).toNat)
    case atStart => exact ⟨0, Nat.zero_le _, rfl, Below.refl _ _, by simp⟩
    case round =>
      obtain ⟨j, hj, rfl, hbr, heq⟩ := hrel
      have HR := Hd (Ai hbr heq)
      clear hbr heq
      by_cases gj : j < l1.length
      · have gj' : (j : Int) < (l1.length : Int) := by omega
        have hl2 := HL.out
        have gk' : (j : Int) < (l2.length : Int) := by omega
        obtain ⟨g1, o1, ea1, k1, m1', -, ht1⟩ := HO.out.1.at (by omega)
        obtain ⟨g2, o2, ea2, k2, m2', -, ht2⟩ := HO.out.2.at (by omega)
        subst ea1 ea2
        have p0 := later' HR.out.1 (ht1 j _ (namesV_get gj))
        have q0 := later' HR.out.1 (ht2 j _ (namesV_get (l := l2) (by omega)))
        have HT := Hd (show l1.take (j + 1) = l1.take j ++ [l1[j]] from List.take_succ_eq_append_getElem gj)
        have HT2 := Hd (show l2.take (j + 1) = l2.take j ++ [l2[j]] from List.take_succ_eq_append_getElem (by omega))
        have HG := Hd (show l1 = l2 → l1[j] = l2[j] from fun h => by subst h; rfl)
        generalize l1[j] = t1 at *
        generalize l2[j] = t2 at *
        have ej : IntKind.i64.wrap ((j : Int) + 1) = (j : Int) + 1 := by rw [IntKind.wrap_i64]; omega
        have b0 : (0 : Int) ≤ (j : Int) := by omega
        clear ht1 ht2 hl2
        by_cases ge : t1 = t2
        · subst ge
          have he : ((tx t1).toList == (tx t1).toList) = true := by simp
          go_wp2_with fail
          go_quiet (fail)
          go_wp2_with fail
          refine ⟨⟨j + 1, by omega, rfl, below_dN HR.out.1 nq, by rw [HT.out, HT2.out, HR.out.2]⟩, by simp [RowKit.intOf]; omega⟩
        · have he := tx_ne ge
          go_wp2_with fail
          go_quiet (fail)
          go_wp2_with fail
          go_ret
          exact ⟨by rw [decide_eq_false (fun h => ge (HG.out h))]; rfl, below_dN HR.out.1 nq⟩
      · obtain rfl : j = l1.length := by omega
        go_wp2_with fail
        go_ret
        have h := HR.out.2
        rw [List.take_length, HL.out, List.take_length] at h
        exact ⟨by rw [decide_eq_true h]; rfl, HR.out.1⟩
  · have hl' : ¬ (l1.length : Int) = (l2.length : Int) := by omega
    have HL := Hd hl
    clear hl
    go_wp2_with fail
    go_ret
    exact ⟨by rw [decide_eq_false (fun h => HL.out (by rw [h]))]; rfl, Below.refl _ _⟩
def exTextV : ByteArray := ⟨#[109, 32, 61, 32, 92, 120, 32, 45, 62, 32, 102, 32, 120, 32, 40, 103, 32, 121, 41, 59]⟩
def exExV : Ex := .mk 8 [] false 0 [[120]] [.mk 4 [] false 0 [] [.leaf 1 [102], .leaf 1 [120], .mk 4 [] false 0 [] [.leaf 1 [103], .leaf 1 [121]] [] []] [] []] [] []
def exModV : Md := ([], [([109], [], exExV)])
theorem ex_modV : modL exTextV.data.toList = .ok exModV 1 [] := by kernel_rfl
theorem ex_bindsV : bindsL exTextV.data.toList = [([109], [], exExV)] := by unfold bindsL; rw [ex_modV]; rfl
theorem ex_freeV : bodyL [] exExV = [[102], [103], [121]] := by decide +kernel
theorem vawake_any (w : World) : Calls Try.prog 8 #[] w fun e w' => e = .returned (.bool true) ∧ Below w.heap.size w w' := by
  have hok := bindsL_ok (l := exTextV.data.toList) (by decide +kernel)
  rw [ex_bindsV] at hok
  have hw : wfE exExV := (hok.1 _ (List.mem_singleton.2 rfl)).2.2
  have hn : wtE exExV ≤ 100000 := by decide +kernel
  have HP := Hd (law_told exTextV (by decide +kernel) w)
  rw [ex_bindsV] at HP
  unfold exTextV at HP
  clear hok
  go_enter Try.func8, Try.ntmps8
  go_wp2_with fail
  refine HP.out.mono ?_
  rintro e w2 ⟨⟨ab, cb, cs, rfl, hr, hb⟩, hbl⟩
  obtain ⟨aq, cq, k, nm, f, u, ap, np, cp, ak, nk, ck, ab', nb, cb', aa, na, ca, -, hE, hc⟩ := hb.cells 0 (by decide)
  obtain ⟨g1, o1, ea1, k1, m1', -, ht1⟩ := hr.at (by decide)
  subst ea1
  have HPc := Hd (fun i v h => ht1 _ _ (hc i v h))
  have HB := Hd hbl
  have HF := Hd (vfree_said exExV (wvE_of _ hw) hn k nm f u ap np cp ak nk ck ab' nb cb' aa na ca _ w2 hE)
  rw [ex_freeV] at HF
  have p2 : w2.cell? ⟨g1, o1 + 2, none⟩ = some (.int .i64 k) := HPc.out 2 _ rfl
  have p3 : w2.cell? ⟨g1, o1 + 3, none⟩ = some (.string (tx nm)) := HPc.out 3 _ rfl
  have p4 : w2.cell? ⟨g1, o1 + 4, none⟩ = some (.bool f) := HPc.out 4 _ rfl
  have p5 : w2.cell? ⟨g1, o1 + 5, none⟩ = some (.int .u64 u) := HPc.out 5 _ rfl
  have p6 : w2.cell? ⟨g1, o1 + 6, none⟩ = some (.slice ap np cp) := HPc.out 6 _ rfl
  have p7 : w2.cell? ⟨g1, o1 + 7, none⟩ = some (.slice ak nk ck) := HPc.out 7 _ rfl
  have p8 : w2.cell? ⟨g1, o1 + 8, none⟩ = some (.slice ab' nb cb') := HPc.out 8 _ rfl
  have p9 : w2.cell? ⟨g1, o1 + 9, none⟩ = some (.slice aa na ca) := HPc.out 9 _ rfl
  have hl1 : (([([109], [], exExV)] : List Bnd).length : Int) = 1 := rfl
  have hl2 : ([([109], [], exExV)] : List Bnd).length = 1 := rfl
  clear hr hb hbl hE hc ht1 HP
  go_wp2_with fail
  refine HF.out.mono ?_
  rintro e w3 ⟨⟨v, rfl, ho⟩, hb3⟩
  obtain ⟨av, cv, rfl, -⟩ := own_shape ho
  have hx := (Below.refl w3.heap.size w3).alloc Nr (.cells #[.string ⟨#[102]⟩, .string ⟨#[103]⟩, .string ⟨#[121]⟩] 9)
  have hrow : RowAt (w3.alloc (.cells #[.string ⟨#[102]⟩, .string ⟨#[103]⟩, .string ⟨#[121]⟩] 9)) (fun _ => True) 9 1 (.slice (some ⟨w3.heap.size, 0, none⟩) 3 3) 3 (namesV [[102], [103], [121]]) := by
    have h := heap_alloc_new w3 (.cells #[.string ⟨#[102]⟩, .string ⟨#[103]⟩, .string ⟨#[121]⟩] 9)
    refine ⟨rfl, Or.inr ⟨_, 0, 3, _, rfl, trivial, h, Nat.le_refl _, by decide, fun j v hj => ?_⟩⟩
    rw [Nat.zero_add, cell_of_row _ _ j _ _ (0, 0) h]
    have h2 : namesV [[102], [103], [121]] = [.string ⟨#[102]⟩, .string ⟨#[103]⟩, .string ⟨#[121]⟩] := rfl
    rw [h2] at hj
    simpa using hj
  have HT := Hd (texts_any [[102], [103], [121]] [[102], [103], [121]] av cv (some ⟨w3.heap.size, 0, none⟩) 3 (fun _ => True) (fun _ => True) (w3.alloc (.cells #[.string ⟨#[102]⟩, .string ⟨#[103]⟩, .string ⟨#[121]⟩] 9)) (RowAt.of (own_below ho hx) (fun _ _ => trivial)) hrow)
  have HB3 := Hd (onB' HB.out (onB' hb3 hx))
  clear ho hb3 hx hrow HF
  go_wp2_with fail
  refine HT.out.mono ?_
  rintro e w4 ⟨rfl, hb4⟩
  have HB4 := Hd (onB' HB3.out hb4)
  clear hb4 HT
  go_wp2_with fail
  go_ret
  exact ⟨rfl, HB4.out⟩
theorem bindsL_le {l : List UInt8} : (bindsL l).length + sumN nB (bindsL l) ≤ 4096 := by
  unfold bindsL
  cases h : modL l with
  | bad er ln => exact Nat.zero_le _
  | ok md a b =>
    unfold modL at h
    cases hR : lexL l with
    | bad k line => rw [hR] at h; cases h
    | good T =>
      rw [hR] at h
      obtain ⟨h1, h2, h3⟩ := lexL_own hR
      have ht := parse_wt h
      unfold wtM at ht
      rw [sumN_nB2] at ht
      show md.2.length + sumN nB md.2 ≤ 4096
      omega
mutual
theorem outE_nms : ∀ (e : Ex) (bd : List Nm), wfE e → Nms (outE bd e)
  | .mk k n f x ps ks bs al, bd, h => by
    unfold wfE at h
    obtain ⟨h1, h2, h3, h4, h5, h6, h7, h8, h9⟩ := h
    unfold outE
    split
    · rename_i g
      split
      · exact fun x hx => by cases hx
      · exact fun x hx => by rw [List.mem_singleton.1 hx]; exact h3 (Or.inl g)
    split
    · exact fun x hx => by
        rcases List.mem_append.1 hx with hx | hx
        · exact outBs_nms bs _ h6 x hx
        · exact outEs_nms ks _ h5 x hx
    split
    · exact fun x hx => by
        rcases List.mem_append.1 hx with hx | hx
        · exact outEs_nms ks _ h5 x hx
        · exact outAs_nms al _ h7 x hx
    split
    · exact outEs_nms ks _ h5
    · exact outEs_nms ks _ h5
theorem outEs_nms : ∀ (l : List Ex) (bd : List Nm), wfEs l → Nms (outEs bd l)
  | [], _, _ => by unfold outEs; exact fun x hx => by cases hx
  | e :: r, bd, h => by
    unfold wfEs at h
    unfold outEs
    exact fun x hx => by
      rcases List.mem_append.1 hx with hx | hx
      · exact outE_nms e bd h.1 x hx
      · exact outEs_nms r bd h.2 x hx
theorem outBs_nms : ∀ (l : List (Nm × List Nm × Ex)) (bd : List Nm), wfBs l → Nms (outBs bd l)
  | [], _, _ => by unfold outBs; exact fun x hx => by cases hx
  | (n, ps, e) :: r, bd, h => by
    unfold wfBs at h
    unfold outBs
    exact fun x hx => by
      rcases List.mem_append.1 hx with hx | hx
      · exact outE_nms e _ h.1.2.2 x hx
      · exact outBs_nms r bd h.2 x hx
theorem outAs_nms : ∀ (l : List (Int × Nm × Bool × Int × List Nm × Ex)) (bd : List Nm), wfAs l → Nms (outAs bd l)
  | [], _, _ => by unfold outAs; exact fun x hx => by cases hx
  | (k, n, f, x, ns, e) :: r, bd, h => by
    unfold wfAs at h
    unfold outAs
    exact fun y hy => by
      rcases List.mem_append.1 hy with hy | hy
      · split at hy
        · exact outE_nms e _ h.1.2.2 y hy
        · split at hy
          · exact outE_nms e _ h.1.2.2 y hy
          · exact outE_nms e _ h.1.2.2 y hy
      · exact outAs_nms r bd h.2 y hy
end
theorem bodyL_nms {e : Ex} (h : wfE e) (ps : List Nm) : Nms (bodyL ps e) := fun x hx => by
  rcases (dedup_mem _ _ x).1 hx with hx | hx
  · cases hx
  · exact outE_nms e ps h x hx
theorem bodyL_len (e : Ex) (ps : List Nm) : (bodyL ps e).length ≤ wtE e := by
  have h1 := dedup_len (outE ps e) []
  have h2 := outE_len e ps
  unfold bodyL
  simp at h1
  omega
def lamX (s : List Nm) (e : Ex) : Ex := .mk 8 [] false 0 s [e] [] []
theorem lamX_wt (e : Ex) (s : List Nm) : wtE (lamX s e) = s.length + wtE e := by
  unfold lamX
  rw [wtE_mk]
  simp [sumN]
theorem lamX_at {W : World} {K1 K2 K3 : Nat → Prop} {e : Ex} {s : List Nm} {a1 a2 : Option Addr} {c1 c2 : Nat} {xs : List Value} (h1 : RowAt W K1 9 1 (.slice a1 s.length c1) s.length (namesV s)) (h2 : RowAt W K2 34 8 (.slice a2 1 c2) 1 xs) (h3 : ExAt W K3 e xs) :
    ExAt W (fun g => g < W.heap.size) (lamX s e) [.int .i64 8, .string (tx []), .bool false, .int .u64 0, .slice a1 s.length c1, .slice a2 1 c2, .slice none 0 0, .slice none 0 0] := by
  have hk := ExsAt.cons e [] xs [] (h3.move (K' := fun g => g < W.heap.size) fun g _ lt => ⟨lt, rfl⟩) .nil
  rw [List.append_nil] at hk
  exact .mk 8 [] false 0 s [e] [] [] (.slice a1 s.length c1) (.slice a2 1 c2) (.slice none 0 0) (.slice none 0 0) xs [] [] (h1.move fun g _ lt => ⟨lt, rfl⟩) (h2.move fun g _ lt => ⟨lt, rfl⟩) (row_none _ _ _ _) (row_none _ _ _ _) hk .nil .nil
end Go.Proofs.Ytdjcdecbmeickaa
