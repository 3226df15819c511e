import Derived.Test.YthehgcmhcioffaaGreatDoorMg4
import Derived.Test.YthehgcmhcioffaaGreatDoorMg11
namespace Go.Proofs.YthehgcmhcioffaaGreatDoor
set_option maxHeartbeats 64000000
set_option maxRecDepth 100000
open Go.RowKit Go.Lib
def NmsV (lo : Nat) (o : List Nm) (e : Ending) (w : World) : Prop := ∃ v, e = .returned v ∧ w.ownsRow lo 9 1 v o.length (namesV o)
theorem mS_le {T : List Tok} {w : World} {b : Nat} {s : St} (h : PAt w b T s) : mS s ≤ T.length + 1 := by
  obtain ⟨i, -, hr, -⟩ := h.c1
  unfold mS
  split
  · rw [hr, List.length_drop]; omega
  · exact Nat.zero_le _
theorem loop_go {ll : Int} {fu : Nat} {bl : Bool} {acc : List Nm} {s : St} (he : s.e = 0) (h : bl = true ∨ kindL s.r = 1) : loopN ll (fu + 1) bl acc s = loopN ll fu false (acc ++ [(tokD ll 1 s).1.1.t]) (tokD ll 1 s).2 := by
  conv => lhs; unfold loopN
  exact if_pos ⟨he, h⟩
theorem loop_no {ll : Int} {fu : Nat} {bl : Bool} {acc : List Nm} {s : St} (h : ¬ (s.e = 0 ∧ (bl = true ∨ kindL s.r = 1))) : loopN ll (fu + 1) bl acc s = (acc, s) := by
  conv => lhs; unfold loopN
  exact if_neg h
theorem dnames_any (b : Nat) (T : List Tok) (s : St) (l : Bool) (w : World) (hP : PAt w b T s) : Calls Tryz.prog 101 #[.pointer (some ⟨b, 0, none⟩), .int .i64 (if l = true then 1 else 0)] w (DSaid b T (NmsV w.heap.size) (namesD (lastOf 1 T) l s) w) := by
  have hbw : b < w.heap.size := hP.lt
  have HE := Hd hP
  obtain ⟨i0, hi0, hz0, hzs, hzb⟩ := info_parts Tryz.info_text
  clear hP
  generalize hq : (if l = true then (1 : Int) else 0) = ql
  have HQL := Hd hq
  clear hq
  go_enter Tryz.func101, Tryz.ntmps101
  go_wp2_with fail
  go_loopw [1, 5] (fun s1 s3 wr => ∃ (s' : St) (acc : List Nm) (vv : Value) (bl : Bool) (fu : Nat), s1 = .int .i64 (if bl = true then 1 else 0) ∧ vv = s3 ∧ PAt wr b T s' ∧ w.grownBy wr (some b) ∧ mS s' < fu ∧ loopN (lastOf 1 T) fu bl acc s' = namesD (lastOf 1 T) l s ∧ acc.length + mS s' ≤ mS s ∧ wr.ownsRow w.heap.size 9 1 vv acc.length (namesV acc)) (fun _ _ wr => stM T.length b wr)
  case atStart => exact ⟨s, [], _, l, _, by rw [HQL.out], rfl, HE.out, grown_of Br, by unfold mS; split <;> omega, rfl, by simp, World.ownsRow_nil _ _ _ _⟩
  case round =>
    obtain ⟨s', acc, vv, bl, fu, rfl, rfl, hP, hg, hfu, hN, hn, hown⟩ := hrel
    obtain ⟨aa, cc, rfl, hlow⟩ := own_shape hown
    obtain ⟨fu', rfl⟩ : ∃ q, fu = q + 1 := ⟨fu - 1, by omega⟩
    have c2 := hP.c2
    have HS0 := Hd hP
    have HQ := Hd (Ai hfu hn)
    have HF := Hd hlow
    clear hfu hn hlow
    by_cases ge : s'.e = 0
    · have f0 : (s'.e == 0) = true := by simp [ge]
      have HG := Hd ge
      cases bl with
      | true =>
        simp only [if_true]
        rw [loop_go ge (Or.inl rfl)] at hN
        have HN := Hd hN
        have HW := Hd (Ai hP (Ai hg hown))
        clear hN ge hP hg hown
        have hmx := mS_le HE.out
        have hm1 := mS_alive HG.out
        have hlt1 := tok_lt (ll := (lastOf 1 T)) (k := 1) (by decide) HG.out
        have HTK := Hd (dtok_any b T s' 1 (by decide) wr HW.out.1)
        have HG2 := Hd hlt1
        clear hlt1
        go_wp2_with fail
        refine HTK.out.mono ?_
        rintro e w3 ⟨hv3, hP3, hg3⟩
        have hN := HN.out
        generalize tokD (lastOf 1 T) 1 s' = R at *
        obtain ⟨y, s2⟩ := R
        simp only at hv3 hP3 hN
        unfold TokV at hv3
        subst hv3
        have H3 := Hd (Ai hP3 (Gt HW.out.2.1 hg3))
        have HO3 := Hd (own_kept HW.out.2.2 hg3 (fun e => by have := HF.out b e; omega))
        have hwz : w.heap.size ≤ w3.heap.size := H3.out.2.size
        have hf1 := fun W => tok_field1 y.1.k (tx y.1.t) y.1.f y.1.x y.2 W
        have one1 : ∀ u ∈ [Value.string (tx y.1.t)], u.oneCell' = true := by intro u hu; simp at hu; rw [hu]; rfl
        have hTn := HE.out.n
        have hn := HQ.out.2
        have m9 : acc.length + 1 ≤ maxLen := by unfold maxLen; omega
        have m8 : (acc.length + 1) * 16 ≤ 140737488355328 := by omega
        have HN3 := Hd hN
        clear hP3 hg3 HTK hN
        go_wp2_with (at_builtin; refine wpList_append_lies _ rfl _ _ 30 rfl w.heap.size 9 i0 (.string ⟨#[]⟩) 1 16 Tryz.underlying30 hi0 hz0 hzs hzb rfl (by decide) (.slice aa acc.length cc) acc.length (namesV acc) rfl (HO3.out.alloc _) ⟨w3.heap.size, 0, none⟩ 1 1 [.string (tx y.1.t)] rfl rfl (World.news_of_block (heap_alloc_new _ _)) one1 (by decide) m9 m8 (by simp; omega) _ rfl ?_; intro g9 cap9 w9 o1 o2 o3 o4)
        have hxx := (Below.refl w3.heap.size w3).alloc Nr (.cells #[.string (tx y.1.t)] 9)
        obtain ⟨q, hq, hg9⟩ := grown_some (b := b) o2 (fun g e => by have := HF.out g e; omega)
        have hlt2 : mS s2 < mS s' := HG2.out
        have hfu := HQ.out.1
        have hP9 := (H3.out.1.later hxx).past hg9 hq
        refine ⟨⟨s2, acc ++ [y.1.t], _, false, fu', rfl, rfl, hP9, grown_past (Gt H3.out.2 (grown_of hxx)) o2 HF.out, by omega, HN3.out, by simp; omega, ?_⟩, ?_⟩
        · simpa [namesV] using o1
        · rw [hP9.m, HS0.out.m]; exact hlt2
      | false =>
        have HK := Hd (dkind_any b T s' wr hP)
        have HN0 := Hd hN
        have HW0 := Hd (Ai hP (Ai hg hown))
        clear hN hP hg hown
        go_wp2_with fail
        refine HK.out.mono ?_
        rintro e w2 ⟨rfl, hb⟩
        have HW := Hd (Ai (HW0.out.1.later hb) (Ai (Gt HW0.out.2.1 (grown_of (b := b) hb)) (own_below HW0.out.2.2 hb)))
        clear hb c2 HK
        have hN := HN0.out
        by_cases gk : kindL s'.r = 1
        · have f1 : (kindL s'.r == 1) = true := by simp [gk]
          rw [loop_go ge (Or.inr gk)] at hN
          have HN := Hd hN
          clear hN ge gk
          have hmx := mS_le HE.out
          have hm1 := mS_alive HG.out
          have hlt1 := tok_lt (ll := (lastOf 1 T)) (k := 1) (by decide) HG.out
          have HTK := Hd (dtok_any b T s' 1 (by decide) w2 HW.out.1)
          have HG2 := Hd hlt1
          clear hlt1
          go_wp2_with fail
          refine HTK.out.mono ?_
          rintro e w3 ⟨hv3, hP3, hg3⟩
          have hN := HN.out
          generalize tokD (lastOf 1 T) 1 s' = R at *
          obtain ⟨y, s2⟩ := R
          simp only at hv3 hP3 hN
          unfold TokV at hv3
          subst hv3
          have H3 := Hd (Ai hP3 (Gt HW.out.2.1 hg3))
          have HO3 := Hd (own_kept HW.out.2.2 hg3 (fun e => by have := HF.out b e; omega))
          have hwz : w.heap.size ≤ w3.heap.size := H3.out.2.size
          have hf1 := fun W => tok_field1 y.1.k (tx y.1.t) y.1.f y.1.x y.2 W
          have one1 : ∀ u ∈ [Value.string (tx y.1.t)], u.oneCell' = true := by intro u hu; simp at hu; rw [hu]; rfl
          have hTn := HE.out.n
          have hn := HQ.out.2
          have m9 : acc.length + 1 ≤ maxLen := by unfold maxLen; omega
          have m8 : (acc.length + 1) * 16 ≤ 140737488355328 := by omega
          have HN3 := Hd hN
          clear hP3 hg3 HTK hN
          go_wp2_with (at_builtin; refine wpList_append_lies _ rfl _ _ 30 rfl w.heap.size 9 i0 (.string ⟨#[]⟩) 1 16 Tryz.underlying30 hi0 hz0 hzs hzb rfl (by decide) (.slice aa acc.length cc) acc.length (namesV acc) rfl (HO3.out.alloc _) ⟨w3.heap.size, 0, none⟩ 1 1 [.string (tx y.1.t)] rfl rfl (World.news_of_block (heap_alloc_new _ _)) one1 (by decide) m9 m8 (by simp; omega) _ rfl ?_; intro g9 cap9 w9 o1 o2 o3 o4)
          have hxx := (Below.refl w3.heap.size w3).alloc Nr (.cells #[.string (tx y.1.t)] 9)
          obtain ⟨q, hq, hg9⟩ := grown_some (b := b) o2 (fun g e => by have := HF.out g e; omega)
          have hlt2 : mS s2 < mS s' := HG2.out
          have hfu := HQ.out.1
          have hP9 := (H3.out.1.later hxx).past hg9 hq
          refine ⟨⟨s2, acc ++ [y.1.t], _, false, fu', rfl, rfl, hP9, grown_past (Gt H3.out.2 (grown_of hxx)) o2 HF.out, by omega, HN3.out, by simp; omega, ?_⟩, ?_⟩
          · simpa [namesV] using o1
          · rw [hP9.m, HS0.out.m]; exact hlt2
        · have f1 : (kindL s'.r == 1) = false := by simp [gk]
          rw [loop_no (by rintro ⟨-, h | h⟩; cases h; exact gk h)] at hN
          have HN := Hd hN
          clear hN ge gk
          go_wp2_with fail
          refine bodyPost_ret (v := .slice aa acc.length cc) (by simp [results, Tryz.results101, go_sem]) rfl ?_
          rw [← HN.out]
          exact ⟨⟨_, rfl, HW.out.2.2⟩, HW.out.1, HW.out.2.1⟩
    · have f0 : (s'.e == 0) = false := by simp [ge]
      rw [loop_no (fun h => ge h.1)] at hN
      have HN := Hd hN
      have HW := Hd (Ai hP (Ai hg hown))
      clear hN hP hg hown
      generalize (if bl = true then (1 : Int) else 0) = q2
      go_wp2_with fail
      refine bodyPost_ret (v := .slice aa acc.length cc) (by simp [results, Tryz.results101, go_sem]) rfl ?_
      rw [← HN.out]
      exact ⟨⟨_, rfl, HW.out.2.2⟩, HW.out.1, HW.out.2.1⟩
theorem dstarts_any (b : Nat) (T : List Tok) (s : St) (w : World) (hP : PAt w b T s) : Calls Tryz.prog 127 #[.pointer (some ⟨b, 0, none⟩)] w (fun e w' => e = .returned (.bool (decide (startsL s.r))) ∧ Below w.heap.size w w') := by
  have HK := Hd (dkind_any b T s w hP)
  have HP := Hd hP
  clear hP
  go_enter Tryz.func127, Tryz.ntmps127
  go_wp2_with fail
  refine HK.out.mono ?_
  rintro e w2 ⟨rfl, hb⟩
  have HB2 := Hd hb
  clear hb HK
  by_cases hk : kindL s.r = 1
  · have hs : startsL s.r := Or.inl hk
    have HS := Hd (decide_eq_true hs)
    have kk : (kindL s.r == 1) = true := by simp [hk]
    clear hk hs
    go_wp2_with fail
    go_ret
    exact ⟨by rw [HS.out]; rfl, HB2.out⟩
  have HN1 := Hd hk
  have k1 : (kindL s.r == 1) = false := by simp [hk]
  clear hk
  by_cases hk : kindL s.r = 2
  · have hs : startsL s.r := Or.inr (Or.inl hk)
    have HS := Hd (decide_eq_true hs)
    have kk : (kindL s.r == 2) = true := by simp [hk]
    clear hk hs
    go_wp2_with fail
    go_ret
    exact ⟨by rw [HS.out]; rfl, HB2.out⟩
  have HN2 := Hd hk
  have k2 : (kindL s.r == 2) = false := by simp [hk]
  clear hk
  by_cases hk : kindL s.r = 3
  · have hs : startsL s.r := Or.inr (Or.inr (Or.inl hk))
    have HS := Hd (decide_eq_true hs)
    have kk : (kindL s.r == 3) = true := by simp [hk]
    clear hk hs
    go_wp2_with fail
    go_ret
    exact ⟨by rw [HS.out]; rfl, HB2.out⟩
  have HN3 := Hd hk
  have k3 : (kindL s.r == 3) = false := by simp [hk]
  clear hk
  by_cases hk : kindL s.r = 7
  · have hs : startsL s.r := Or.inr (Or.inr (Or.inr (Or.inl hk)))
    have HS := Hd (decide_eq_true hs)
    have kk : (kindL s.r == 7) = true := by simp [hk]
    clear hk hs
    go_wp2_with fail
    go_ret
    exact ⟨by rw [HS.out]; rfl, HB2.out⟩
  have HN7 := Hd hk
  have k7 : (kindL s.r == 7) = false := by simp [hk]
  clear hk
  have hc := dsees_any b T s [108, 101, 116] w2 (HP.out.later HB2.out)
  cases hq : seesL [108, 101, 116] s.r with
  | true =>
    have hs : startsL s.r := Or.inr (Or.inr (Or.inr (Or.inr (Or.inl hq))))
    have HS := Hd (decide_eq_true hs)
    rw [hq] at hc
    have HC := Hd hc
    clear hq hs hc
    go_wp2_with fail
    refine HC.out.mono ?_
    rintro e w3 ⟨rfl, hb⟩
    have HBn := Hd (onB' HB2.out hb)
    clear hb HC
    go_wp2_with fail
    go_ret
    exact ⟨by rw [HS.out]; rfl, HBn.out⟩
  | false =>
    rw [hq] at hc
    have HC := Hd hc
    have HQ0 := Hd hq
    clear hq hc
    go_wp2_with fail
    refine HC.out.mono ?_
    rintro e w3 ⟨rfl, hb⟩
    have HB3 := Hd (onB' HB2.out hb)
    clear hb HC
    have hc := dsees_any b T s [99, 97, 115, 101] w3 (HP.out.later HB3.out)
    cases hq : seesL [99, 97, 115, 101] s.r with
    | true =>
      have hs : startsL s.r := Or.inr (Or.inr (Or.inr (Or.inr (Or.inr (Or.inl hq)))))
      have HS := Hd (decide_eq_true hs)
      rw [hq] at hc
      have HC := Hd hc
      clear hq hs hc
      go_wp2_with fail
      refine HC.out.mono ?_
      rintro e w4 ⟨rfl, hb⟩
      have HBn := Hd (onB' HB3.out hb)
      clear hb HC
      go_wp2_with fail
      go_ret
      exact ⟨by rw [HS.out]; rfl, HBn.out⟩
    | false =>
      rw [hq] at hc
      have HC := Hd hc
      have HQ1 := Hd hq
      clear hq hc
      go_wp2_with fail
      refine HC.out.mono ?_
      rintro e w4 ⟨rfl, hb⟩
      have HB4 := Hd (onB' HB3.out hb)
      clear hb HC
      have hc := dsees_any b T s [40] w4 (HP.out.later HB4.out)
      cases hq : seesL [40] s.r with
      | true =>
        have hs : startsL s.r := Or.inr (Or.inr (Or.inr (Or.inr (Or.inr (Or.inr (Or.inl hq))))))
        have HS := Hd (decide_eq_true hs)
        rw [hq] at hc
        have HC := Hd hc
        clear hq hs hc
        go_wp2_with fail
        refine HC.out.mono ?_
        rintro e w5 ⟨rfl, hb⟩
        have HBn := Hd (onB' HB4.out hb)
        clear hb HC
        go_wp2_with fail
        go_ret
        exact ⟨by rw [HS.out]; rfl, HBn.out⟩
      | false =>
        rw [hq] at hc
        have HC := Hd hc
        have HQ2 := Hd hq
        clear hq hc
        go_wp2_with fail
        refine HC.out.mono ?_
        rintro e w5 ⟨rfl, hb⟩
        have HB5 := Hd (onB' HB4.out hb)
        clear hb HC
        have hc := dsees_any b T s [92] w5 (HP.out.later HB5.out)
        cases hq : seesL [92] s.r with
        | true =>
          have hs : startsL s.r := Or.inr (Or.inr (Or.inr (Or.inr (Or.inr (Or.inr (Or.inr hq))))))
          have HS := Hd (decide_eq_true hs)
          rw [hq] at hc
          have HC := Hd hc
          clear hq hs hc
          go_wp2_with fail
          refine HC.out.mono ?_
          rintro e w6 ⟨rfl, hb⟩
          have HBn := Hd (onB' HB5.out hb)
          clear hb HC
          go_wp2_with fail
          go_ret
          exact ⟨by rw [HS.out]; rfl, HBn.out⟩
        | false =>
          rw [hq] at hc
          have HC := Hd hc
          have HQ3 := Hd hq
          clear hq hc
          go_wp2_with fail
          refine HC.out.mono ?_
          rintro e w6 ⟨rfl, hb⟩
          have HB6 := Hd (onB' HB5.out hb)
          clear hb HC
          have HS := Hd (show decide (startsL s.r) = false from decide_eq_false (by
            rintro (h | h | h | h | h | h | h | h)
            · exact HN1.out h
            · exact HN2.out h
            · exact HN3.out h
            · exact HN7.out h
            · rw [HQ0.out] at h; cases h
            · rw [HQ1.out] at h; cases h
            · rw [HQ2.out] at h; cases h
            · rw [HQ3.out] at h; cases h))
          go_wp2_with fail
          go_ret
          exact ⟨by rw [HS.out]; rfl, HB6.out⟩
def ExprDC (b : Nat) (T : List Tok) (k : Nat) : Prop := ∀ (s : St) (w : World), PAt w b T s → Calls Tryz.prog 102 #[.pointer (some ⟨b, 0, none⟩), .int .i64 (201 - (k : Int))] w (DSaid b T (ExV w.heap.size) (exprD (lastOf 1 T) k s) w)
theorem expr_zero0 (b : Nat) (T : List Tok) (s : St) (w : World) (hP : PAt w b T s) : Calls Tryz.prog 102 #[.pointer (some ⟨b, 0, none⟩), .int .i64 201] w (DSaid b T (ExV w.heap.size) (exprD (lastOf 1 T) 0 s) w) := by
  have hlt : b < w.heap.size := hP.lt
  have hx := (Below.refl w.heap.size w).alloc Nr (.cells #[.int .i64 0, .string ⟨#[]⟩, .bool false, .int .u64 0, .slice none 0 0, .slice none 0 0, .slice none 0 0, .slice none 0 0] 37)
  have HX := Hd (Ai hx (BoxW.alloc w #[.int .i64 0, .string ⟨#[]⟩, .bool false, .int .u64 0, .slice none 0 0, .slice none 0 0, .slice none 0 0, .slice none 0 0] 37))
  have H0 := Hd (Ai (hP.later hx) (grown_of (b := b) (Below.refl (w.alloc (.cells #[.int .i64 0, .string ⟨#[]⟩, .bool false, .int .u64 0, .slice none 0 0, .slice none 0 0, .slice none 0 0, .slice none 0 0] 37)).heap.size (w.alloc (.cells #[.int .i64 0, .string ⟨#[]⟩, .bool false, .int .u64 0, .slice none 0 0, .slice none 0 0, .slice none 0 0, .slice none 0 0] 37)))))
  have HT0 := Hd hP.n
  clear hx hP
  go_enter Tryz.func102, Tryz.ntmps102
  go_upto_region 1 with fail
  have hsz0 : w.heap.size + 1 ≤ (w.alloc (.cells #[.int .i64 0, .string ⟨#[]⟩, .bool false, .int .u64 0, .slice none 0 0, .slice none 0 0, .slice none 0 0, .slice none 0 0] 37)).heap.size := by simp
  generalize (w.alloc (.cells #[.int .i64 0, .string ⟨#[]⟩, .bool false, .int .u64 0, .slice none 0 0, .slice none 0 0, .slice none 0 0, .slice none 0 0] 37)) = W at *
  have c2 := H0.out.1.c2
  by_cases ge : s.e = 0
  · have f0 : (s.e != 0) = false := by simp [ge]
    have HC := Hd (dstarts_any b T s W H0.out.1)
    go_wp2_with fail
    refine HC.out.mono ?_
    rintro e w1 ⟨rfl, hb⟩
    have HG1 := Hd (grown_of (b := b) hb)
    have hsz1 : W.heap.size ≤ w1.heap.size := hb.size
    have H1 := Hd (Ai (H0.out.1.later hb) (Gt H0.out.2 HG1.out))
    clear HC hb
    by_cases gs : startsL s.r
    · rw [decide_eq_true gs]
      have HPu := Hd (show exprD (lastOf 1 T) 0 s = (blankX, (s.bad (lastOf 1 T) 12).bad (lastOf 1 T) 3) by unfold exprD; rw [if_neg (fun h => h ge), if_pos gs])
      clear gs ge c2
      have HC := Hd (dfault_any b T (s) 12 w1 H1.out.1)
      go_wp2_with fail
      refine HC.out.mono ?_
      rintro e w2 ⟨rfl, hP, hg⟩
      have HG2 := Hd hg
      have hsz2 : w1.heap.size ≤ w2.heap.size := hg.size
      have H2 := Hd (Ai hP (Gt H1.out.2 hg))
      clear HC hP hg
      have HC := Hd (dfault_any b T ((s).bad (lastOf 1 T) 12) 3 w2 H2.out.1)
      go_wp2_with fail
      refine HC.out.mono ?_
      rintro e w3 ⟨rfl, hP, hg⟩
      have HG3 := Hd hg
      have hsz3 : w2.heap.size ≤ w3.heap.size := hg.size
      have H3 := Hd (Ai hP (Gt H2.out.2 hg))
      clear HC hP hg
      have hBp := boxw_grown HX.out.2 H3.out.2 (by omega)
      obtain ⟨d0, d1, d2, d3, d4, d5, d6, d7⟩ := (hBp).q8
      obtain ⟨z0, z1, z2, z3, z4, z5, z6, z7⟩ := (hBp).z8
      have HBp := Hd hBp
      clear hBp
      go_wp2_with fail
      have hF := ((HBp.out).b8v (.int .i64 0) (.string ⟨#[]⟩) (.bool false) (.int .u64 0) (.slice none 0 0) (.slice none 0 0) (.slice none 0 0) (.slice none 0 0))
      have v0 := hF.1 0 _ rfl
      have v1 := hF.1 1 _ rfl
      have v2 := hF.1 2 _ rfl
      have v3 := hF.1 3 _ rfl
      have v4 := hF.1 4 _ rfl
      have v5 := hF.1 5 _ rfl
      have v6 := hF.1 6 _ rfl
      have v7 := hF.1 7 _ rfl
      refine bodyPost_ret (v := .agg #[.int .i64 0, .string ⟨#[]⟩, .bool false, .int .u64 0, .slice none 0 0, .slice none 0 0, .slice none 0 0, .slice none 0 0]) (by simp [results, Tryz.results102, go_sem, v0, v1, v2, v3, v4, v5, v6, v7]) rfl ?_
      rw [HPu.out]
      refine ⟨⟨_, _, _, _, _, _, _, _, rfl, ExAt.leaf _ _ 0 []⟩, ((((((((H3.out.1).over hlt _).over hlt _).over hlt _).over hlt _).over hlt _).over hlt _).over hlt _).over hlt _, (grown_new (grown_new (grown_new (grown_new (grown_new (grown_new (grown_new (grown_new (Gt (grown_of (b := b) HX.out.1) H3.out.2) Nr _) Nr _) Nr _) Nr _) Nr _) Nr _) Nr _) Nr _)⟩
    · rw [decide_eq_false gs]
      have HPu := Hd (show exprD (lastOf 1 T) 0 s = (blankX, s.bad (lastOf 1 T) 3) by unfold exprD; rw [if_neg (fun h => h ge), if_neg gs])
      clear gs ge c2
      have HC := Hd (dfault_any b T (s) 3 w1 H1.out.1)
      go_wp2_with fail
      refine HC.out.mono ?_
      rintro e w2 ⟨rfl, hP, hg⟩
      have HG2 := Hd hg
      have hsz2 : w1.heap.size ≤ w2.heap.size := hg.size
      have H2 := Hd (Ai hP (Gt H1.out.2 hg))
      clear HC hP hg
      have hBp := boxw_grown HX.out.2 H2.out.2 (by omega)
      obtain ⟨d0, d1, d2, d3, d4, d5, d6, d7⟩ := (hBp).q8
      obtain ⟨z0, z1, z2, z3, z4, z5, z6, z7⟩ := (hBp).z8
      have HBp := Hd hBp
      clear hBp
      go_wp2_with fail
      have hF := ((HBp.out).b8v (.int .i64 0) (.string ⟨#[]⟩) (.bool false) (.int .u64 0) (.slice none 0 0) (.slice none 0 0) (.slice none 0 0) (.slice none 0 0))
      have v0 := hF.1 0 _ rfl
      have v1 := hF.1 1 _ rfl
      have v2 := hF.1 2 _ rfl
      have v3 := hF.1 3 _ rfl
      have v4 := hF.1 4 _ rfl
      have v5 := hF.1 5 _ rfl
      have v6 := hF.1 6 _ rfl
      have v7 := hF.1 7 _ rfl
      refine bodyPost_ret (v := .agg #[.int .i64 0, .string ⟨#[]⟩, .bool false, .int .u64 0, .slice none 0 0, .slice none 0 0, .slice none 0 0, .slice none 0 0]) (by simp [results, Tryz.results102, go_sem, v0, v1, v2, v3, v4, v5, v6, v7]) rfl ?_
      rw [HPu.out]
      refine ⟨⟨_, _, _, _, _, _, _, _, rfl, ExAt.leaf _ _ 0 []⟩, ((((((((H2.out.1).over hlt _).over hlt _).over hlt _).over hlt _).over hlt _).over hlt _).over hlt _).over hlt _, (grown_new (grown_new (grown_new (grown_new (grown_new (grown_new (grown_new (grown_new (Gt (grown_of (b := b) HX.out.1) H2.out.2) Nr _) Nr _) Nr _) Nr _) Nr _) Nr _) Nr _) Nr _)⟩
  · have f0 : (s.e != 0) = true := by simp [ge]
    have HPu := Hd (show exprD (lastOf 1 T) 0 s = (blankX, s) by unfold exprD; rw [if_pos ge])
    clear ge
    have hBp := boxw_grown HX.out.2 H0.out.2 (by omega)
    obtain ⟨d0, d1, d2, d3, d4, d5, d6, d7⟩ := (hBp).q8
    obtain ⟨z0, z1, z2, z3, z4, z5, z6, z7⟩ := (hBp).z8
    have HBp := Hd hBp
    clear hBp
    go_wp2_with fail
    have hF := ((HBp.out).b8v (.int .i64 0) (.string ⟨#[]⟩) (.bool false) (.int .u64 0) (.slice none 0 0) (.slice none 0 0) (.slice none 0 0) (.slice none 0 0))
    have v0 := hF.1 0 _ rfl
    have v1 := hF.1 1 _ rfl
    have v2 := hF.1 2 _ rfl
    have v3 := hF.1 3 _ rfl
    have v4 := hF.1 4 _ rfl
    have v5 := hF.1 5 _ rfl
    have v6 := hF.1 6 _ rfl
    have v7 := hF.1 7 _ rfl
    refine bodyPost_ret (v := .agg #[.int .i64 0, .string ⟨#[]⟩, .bool false, .int .u64 0, .slice none 0 0, .slice none 0 0, .slice none 0 0, .slice none 0 0]) (by simp [results, Tryz.results102, go_sem, v0, v1, v2, v3, v4, v5, v6, v7]) rfl ?_
    rw [HPu.out]
    refine ⟨⟨_, _, _, _, _, _, _, _, rfl, ExAt.leaf _ _ 0 []⟩, ((((((((H0.out.1).over hlt _).over hlt _).over hlt _).over hlt _).over hlt _).over hlt _).over hlt _).over hlt _, (grown_new (grown_new (grown_new (grown_new (grown_new (grown_new (grown_new (grown_new (Gt (grown_of (b := b) HX.out.1) H0.out.2) Nr _) Nr _) Nr _) Nr _) Nr _) Nr _) Nr _) Nr _)⟩
theorem expr_zero (b : Nat) (T : List Tok) : ExprDC b T 0 := fun s w hP => expr_zero0 b T s w hP
theorem atoms_go {ll : Int} {ex : Dp Ex} {fu : Nat} {acc : List Ex} {s : St} (he : s.e = 0) (hb : begins s.r) : atomsD ll ex (fu + 1) acc s = atomsD ll ex fu (acc ++ [(atomD ll ex s).1]) (atomD ll ex s).2 := by
  conv => lhs; unfold atomsD
  exact if_pos ⟨he, hb⟩
theorem atoms_no {ll : Int} {ex : Dp Ex} {fu : Nat} {acc : List Ex} {s : St} (hb : ¬ begins s.r) : atomsD ll ex (fu + 1) acc s = (acc, s) := by
  conv => lhs; unfold atomsD
  exact if_neg (fun e => hb e.2)
theorem datoms_any (b : Nat) (T : List Tok) (k : Nat) (hEx : ExprDC b T k) (dd : Int) (hd : IntKind.i64.wrap (dd + 1) = 201 - (k : Int)) (s : St) (w : World) (hP : PAt w b T s) : Calls Tryz.prog 150 #[.pointer (some ⟨b, 0, none⟩), .int .i64 dd] w (DSaid b T (ExsV w.heap.size) (atomsD (lastOf 1 T) (exprD (lastOf 1 T) k) (s.r.length + 1) [] s) w) := by
  have hbw : b < w.heap.size := hP.lt
  have HE := Hd hP
  obtain ⟨i0, hi0, hz0, hzs, hzb⟩ := info_parts Tryz.info_expr
  clear hP
  go_enter Tryz.func150, Tryz.ntmps150
  go_wp2_with fail
  go_loopw [5] (fun s5 wr => ∃ (s' : St) (acc : List Ex) (vv : Value) (cs : List Value) (fu : Nat), vv = s5 ∧ PAt wr b T s' ∧ w.grownBy wr (some b) ∧ mS s' ≤ fu ∧ atomsD (lastOf 1 T) (exprD (lastOf 1 T) k) fu acc s' = atomsD (lastOf 1 T) (exprD (lastOf 1 T) k) (s.r.length + 1) [] s ∧ acc.length + mS s' ≤ mS s ∧ wr.ownsRow w.heap.size 37 8 vv acc.length cs ∧ ExsAt wr (fun g => w.heap.size ≤ g ∧ some g ≠ vv.ownBlock) acc cs) (fun _ wr => stM T.length b wr)
  case atStart => exact ⟨s, [], _, [], _, rfl, HE.out, grown_of Br, by unfold mS; split <;> omega, rfl, by simp, World.ownsRow_nil _ _ _ _, .nil⟩
  case round =>
    obtain ⟨s', acc, vv, cs, fu, rfl, hP, hg, hfu, hN, hn, hown, hex⟩ := hrel
    obtain ⟨aa, cc, rfl, hlow⟩ := own_shape hown
    have hltO : ∀ g, (Value.slice aa acc.length cc).ownBlock = some g → g < wr.heap.size := fun g e => (hown.lt g e).2
    have c2 := hP.c2
    have HS0 := Hd hP
    have HW := Hd (Ai hP hg)
    have HXs := Hd hex
    have HL := Hd hlow
    have HLt := Hd hltO
    by_cases ge : s'.e = 0
    · have f0 : (s'.e == 0) = true := by simp [ge]
      have hm0 := mS_alive ge
      obtain ⟨fu', rfl⟩ : ∃ q, fu = q + 1 := ⟨fu - 1, by omega⟩
      have HQ := Hd (Ai hfu (Ai trivial hn))
      have HN0 := Hd hN
      have HG := Hd ge
      have hx := (Below.refl wr.heap.size wr).alloc Nr (.cells #[.int .i64 0, .string ⟨#[]⟩, .bool false, .int .u64 0, .slice none 0 0, .slice none 0 0, .slice none 0 0, .slice none 0 0] 37)
      have HX0 := Hd hx
      have HBq := Hd (BoxW.alloc wr #[.int .i64 0, .string ⟨#[]⟩, .bool false, .int .u64 0, .slice none 0 0, .slice none 0 0, .slice none 0 0, .slice none 0 0] 37)
      have HO := Hd (own_below hown hx)
      have hbr : b < wr.heap.size := hP.lt
      have hwr : w.heap.size ≤ wr.heap.size := hg.size
      have hszW0 : wr.heap.size + 1 ≤ (wr.alloc (.cells #[.int .i64 0, .string ⟨#[]⟩, .bool false, .int .u64 0, .slice none 0 0, .slice none 0 0, .slice none 0 0, .slice none 0 0] 37)).heap.size := by simp
      clear hP hg hfu hN hn hown hlow hltO hex ge hx hm0
      go_upto_region 4 with fail
      generalize (wr.alloc (.cells #[.int .i64 0, .string ⟨#[]⟩, .bool false, .int .u64 0, .slice none 0 0, .slice none 0 0, .slice none 0 0, .slice none 0 0] 37)) = W0 at *
      have H0 := Hd (Ai (HW.out.1.later HX0.out) (Gt HW.out.2 (grown_of (b := b) HX0.out)))
      have HC := Hd (dkind_any b T s' W0 H0.out.1)
      go_wp2_with fail
      refine HC.out.mono ?_
      rintro e w1 ⟨rfl, hb⟩
      have HG1 := Hd (grown_of (b := b) hb)
      have hsz1 : W0.heap.size ≤ w1.heap.size := hb.size
      have H1 := Hd (Ai (H0.out.1.later hb) (Gt H0.out.2 HG1.out))
      clear HC hb
      replace HBq := Hd (boxw_grown HBq.out HG1.out (by omega))
      by_cases hk : kindL s'.r = 1
      · have kk : (kindL s'.r == 1) = true := by simp [hk]
        have hb' : begins s'.r := Or.inl hk
        have hN := HN0.out
        rw [atoms_go HG.out hb'] at hN
        have ha : atomD (lastOf 1 T) (exprD (lastOf 1 T) k) s' = (.leaf 1 (tokD (lastOf 1 T) 1 s').1.1.t, (tokD (lastOf 1 T) 1 s').2) := by unfold atomD; rw [if_pos hk]
        rw [ha] at hN
        have hl := atom_lt (ll := (lastOf 1 T)) (ex := (exprD (lastOf 1 T) k)) (expr_mn k) HG.out hb'
        rw [ha] at hl
        have HC := Hd (dtok_any b T s' 1 (by decide) w1 H1.out.1)
        have HN9 := Hd (Ai hN hl)
        clear hN ha hb' hk hl
        generalize tokD (lastOf 1 T) 1 s' = Q at *
        obtain ⟨y, s2⟩ := Q
        have HN := Hd HN9.out.1
        have HLT : Hid (mS s2 < mS s') := Hd HN9.out.2
        have HLM := HLT
        clear HN9
        go_wp2_with fail
        refine HC.out.mono ?_
        rintro e w2 ⟨hv, hP, hg⟩
        unfold TokV at hv
        subst hv
        have hf1 := fun W => tok_field1 y.1.k (tx y.1.t) y.1.f y.1.x y.2 W
        have hf2 := fun W => tok_field2 y.1.k (tx y.1.t) y.1.f y.1.x y.2 W
        have HG2 := Hd hg
        have hsz2 : w1.heap.size ≤ w2.heap.size := hg.size
        have H2 := Hd (Ai (show PAt w2 b T s2 from hP) (Gt H1.out.2 hg))
        clear HC hP hg
        replace HBq := Hd (boxw_grown HBq.out HG2.out (by omega))
        obtain ⟨q0, q1, q2, q3, q4, q5, q6, q7⟩ := (HBq.out).q8
        obtain ⟨z0, z1, z2, z3, z4, z5, z6, z7⟩ := (HBq.out).z8
        go_upto_region 18 with fail
        obtain ⟨w3, hq⟩ : ∃ q, q = ((((((((w2.setCell ⟨wr.heap.size, 0, none⟩ (.int .i64 1)).setCell ⟨wr.heap.size, 1, none⟩ (.string (tx y.1.t))).setCell ⟨wr.heap.size, 2, none⟩ (.bool false)).setCell ⟨wr.heap.size, 3, none⟩ (.int .u64 0)).setCell ⟨wr.heap.size, 4, none⟩ (.slice none 0 0)).setCell ⟨wr.heap.size, 5, none⟩ (.slice none 0 0)).setCell ⟨wr.heap.size, 6, none⟩ (.slice none 0 0)).setCell ⟨wr.heap.size, 7, none⟩ (.slice none 0 0)) := ⟨_, rfl⟩
        have HBn := Hd (show BoxW w3 wr.heap.size [.int .i64 1, .string (tx y.1.t), .bool false, .int .u64 0, .slice none 0 0, .slice none 0 0, .slice none 0 0, .slice none 0 0] by subst hq; exact ((HBq.out)).b8)
        have H3 := Hd (Ai (show PAt w3 b T s2 by subst hq; exact (H2.out.1).o8 (show b < wr.heap.size by omega)) (show w.grownBy w3 (some b) by subst hq; exact (gn8 H2.out.2 (show w.heap.size ≤ wr.heap.size by omega))))
        have HG3 := Hd (show Kp w.heap.size wr.heap.size w2 w3 by subst hq; exact ((Kp.s8 (Or.inr Nr))))
        have hsz3 : w2.heap.size ≤ w3.heap.size := by subst hq; simp
        have HO3 := Hd (show w3.ownsRow w.heap.size 37 8 (.slice aa acc.length cc) acc.length cs by subst hq; exact (own_o8 (own_kept HO.out (Gt HG1.out HG2.out) (fun e => by have := HL.out b e; omega)) (fun g e e2 => by have := HLt.out g e; have := Oi e2; omega)))
        clear HBq
        have HBq := HBn
        clear HBn q0 z0 q1 z1 q2 z2 q3 z3 q4 z4 q5 z5 q6 z6 q7 z7 hf1 hf2
        rw [← hq]
        clear hq
        have HPn := Hd H3.out.1
        have HWn := Hd H3.out.2
        have HOn := HO3
        have HKn := Hd (show Kp w.heap.size wr.heap.size wr w3 from (Kp.below HX0.out (by omega)).trans (((((Kp.grown HG1.out (by omega) (by omega)).trans (Kp.grown HG2.out (by omega) (by omega)))).trans (HG3.out))))
        obtain ⟨q0, q1, q2, q3, q4, q5, q6, q7⟩ := (HBq.out).q8
        have hwz : w.heap.size ≤ w3.heap.size := HWn.out.size
        have hszW : wr.heap.size ≤ w3.heap.size := by omega
        have one8 : ∀ z ∈ ([.int .i64 1, .string (tx y.1.t), .bool false, .int .u64 0, .slice none 0 0, .slice none 0 0, .slice none 0 0, .slice none 0 0] : List Value), z.oneCell' = true := by intro z hz; simp at hz; rcases hz with rfl | rfl | rfl | rfl | rfl | rfl | rfl | rfl <;> rfl
        have hTn := HE.out.n
        have hmx := mS_le HE.out
        have hm1 := mS_alive HG.out
        have hn := HQ.out.2.2
        have m9 : acc.length + 1 ≤ maxLen := by unfold maxLen; omega
        have m8 : (acc.length + 1) * 136 ≤ 140737488355328 := by omega
        have HAt := Hd (show ExAt w3 (fun g => wr.heap.size < g) (.leaf 1 y.1.t) [.int .i64 1, .string (tx y.1.t), .bool false, .int .u64 0, .slice none 0 0, .slice none 0 0, .slice none 0 0, .slice none 0 0] from ExAt.leaf _ _ _ _)
        go_wp2_with (at_builtin; refine wpList_append_lies _ rfl _ _ 34 rfl w.heap.size 37 i0 (.agg #[.int .i64 0, .string ⟨#[]⟩, .bool false, .int .u64 0, .slice none 0 0, .slice none 0 0, .slice none 0 0, .slice none 0 0]) 8 136 Tryz.underlying34 hi0 hz0 hzs hzb rfl (by decide) (.slice aa acc.length cc) acc.length cs rfl (HOn.out.alloc _) ⟨w3.heap.size, 0, none⟩ 1 1 [.int .i64 1, .string (tx y.1.t), .bool false, .int .u64 0, .slice none 0 0, .slice none 0 0, .slice none 0 0, .slice none 0 0] rfl rfl (World.news_of_block (heap_alloc_new _ _)) one8 (by decide) m9 m8 (by simp; omega) _ rfl ?_; intro g9 cap9 w9 o1 o2 o3 o4)
        have hxx := (Below.refl w3.heap.size w3).alloc Nr (.cells #[.int .i64 1, .string (tx y.1.t), .bool false, .int .u64 0, .slice none 0 0, .slice none 0 0, .slice none 0 0, .slice none 0 0] 37)
        have hs5 := hxx.size
        have hlow : ∀ g, (Value.slice aa acc.length cc).ownBlock = some g → w.heap.size ≤ g := HL.out
        have hltO : ∀ g, (Value.slice aa acc.length cc).ownBlock = some g → g < wr.heap.size := HLt.out
        obtain ⟨q, hq, hg9⟩ := grown_some (b := b) o2 (fun g e => by have := hlow g e; omega)
        have hP9 := (HPn.out.later hxx).past hg9 hq
        have hlt9 := HLT.out
        have hfu := HQ.out.1
        have hm2 := HLM.out
        refine ⟨⟨_, acc ++ [.leaf 1 y.1.t], _, cs ++ [.int .i64 1, .string (tx y.1.t), .bool false, .int .u64 0, .slice none 0 0, .slice none 0 0, .slice none 0 0, .slice none 0 0], fu', rfl, hP9, grown_past (Gt HWn.out (grown_of hxx)) o2 hlow, by omega, HN.out, by simp; omega, by simpa using o1, ?_⟩, by rw [hP9.m, HS0.out.m]; exact hlt9⟩
        refine ExsAt.snoc (HXs.out.move (fun g hg lt => ?_)) (HAt.out.move (fun g hg lt => ?_))
        · refine ⟨⟨hg.1, fun e => ?_⟩, ((o2.block g (by omega) hg.2).trans (hxx.block g (by omega))).trans (HKn.out g hg.1 lt)⟩
          rcases o3 with h | h
          · exact hg.2 (e.trans h.symm)
          · have := Oi e
            simp at this h
            omega
        · have hg' : wr.heap.size < g := hg
          have hne9 : some g ≠ (Value.slice aa acc.length cc).ownBlock := fun e => by have := hltO g e.symm; omega
          refine ⟨⟨by omega, fun e => ?_⟩, (o2.block g (by omega) hne9).trans (hxx.block g (by omega))⟩
          rcases o3 with h | h
          · exact hne9 (e.trans h.symm)
          · have := Oi e
            simp at this h
            omega
      have HN1 := Hd hk
      have k1 : (kindL s'.r == 1) = false := by simp [hk]
      clear hk
      by_cases hk : kindL s'.r = 2
      · have kk : (kindL s'.r == 2) = true := by simp [hk]
        have hb' : begins s'.r := Or.inr (Or.inl hk)
        have hN := HN0.out
        rw [atoms_go HG.out hb'] at hN
        have ha : atomD (lastOf 1 T) (exprD (lastOf 1 T) k) s' = (.leaf 2 (tokD (lastOf 1 T) 2 s').1.1.t, (tokD (lastOf 1 T) 2 s').2) := by unfold atomD; rw [if_neg HN1.out]; rw [if_pos hk]
        rw [ha] at hN
        have hl := atom_lt (ll := (lastOf 1 T)) (ex := (exprD (lastOf 1 T) k)) (expr_mn k) HG.out hb'
        rw [ha] at hl
        have HC := Hd (dtok_any b T s' 2 (by decide) w1 H1.out.1)
        have HN9 := Hd (Ai hN hl)
        clear hN ha hb' hk hl
        generalize tokD (lastOf 1 T) 2 s' = Q at *
        obtain ⟨y, s2⟩ := Q
        have HN := Hd HN9.out.1
        have HLT : Hid (mS s2 < mS s') := Hd HN9.out.2
        have HLM := HLT
        clear HN9
        go_wp2_with fail
        refine HC.out.mono ?_
        rintro e w2 ⟨hv, hP, hg⟩
        unfold TokV at hv
        subst hv
        have hf1 := fun W => tok_field1 y.1.k (tx y.1.t) y.1.f y.1.x y.2 W
        have hf2 := fun W => tok_field2 y.1.k (tx y.1.t) y.1.f y.1.x y.2 W
        have HG2 := Hd hg
        have hsz2 : w1.heap.size ≤ w2.heap.size := hg.size
        have H2 := Hd (Ai (show PAt w2 b T s2 from hP) (Gt H1.out.2 hg))
        clear HC hP hg
        replace HBq := Hd (boxw_grown HBq.out HG2.out (by omega))
        obtain ⟨q0, q1, q2, q3, q4, q5, q6, q7⟩ := (HBq.out).q8
        obtain ⟨z0, z1, z2, z3, z4, z5, z6, z7⟩ := (HBq.out).z8
        go_upto_region 18 with fail
        obtain ⟨w3, hq⟩ : ∃ q, q = ((((((((w2.setCell ⟨wr.heap.size, 0, none⟩ (.int .i64 2)).setCell ⟨wr.heap.size, 1, none⟩ (.string (tx y.1.t))).setCell ⟨wr.heap.size, 2, none⟩ (.bool false)).setCell ⟨wr.heap.size, 3, none⟩ (.int .u64 0)).setCell ⟨wr.heap.size, 4, none⟩ (.slice none 0 0)).setCell ⟨wr.heap.size, 5, none⟩ (.slice none 0 0)).setCell ⟨wr.heap.size, 6, none⟩ (.slice none 0 0)).setCell ⟨wr.heap.size, 7, none⟩ (.slice none 0 0)) := ⟨_, rfl⟩
        have HBn := Hd (show BoxW w3 wr.heap.size [.int .i64 2, .string (tx y.1.t), .bool false, .int .u64 0, .slice none 0 0, .slice none 0 0, .slice none 0 0, .slice none 0 0] by subst hq; exact ((HBq.out)).b8)
        have H3 := Hd (Ai (show PAt w3 b T s2 by subst hq; exact (H2.out.1).o8 (show b < wr.heap.size by omega)) (show w.grownBy w3 (some b) by subst hq; exact (gn8 H2.out.2 (show w.heap.size ≤ wr.heap.size by omega))))
        have HG3 := Hd (show Kp w.heap.size wr.heap.size w2 w3 by subst hq; exact ((Kp.s8 (Or.inr Nr))))
        have hsz3 : w2.heap.size ≤ w3.heap.size := by subst hq; simp
        have HO3 := Hd (show w3.ownsRow w.heap.size 37 8 (.slice aa acc.length cc) acc.length cs by subst hq; exact (own_o8 (own_kept HO.out (Gt HG1.out HG2.out) (fun e => by have := HL.out b e; omega)) (fun g e e2 => by have := HLt.out g e; have := Oi e2; omega)))
        clear HBq
        have HBq := HBn
        clear HBn q0 z0 q1 z1 q2 z2 q3 z3 q4 z4 q5 z5 q6 z6 q7 z7 hf1 hf2
        rw [← hq]
        clear hq
        have HPn := Hd H3.out.1
        have HWn := Hd H3.out.2
        have HOn := HO3
        have HKn := Hd (show Kp w.heap.size wr.heap.size wr w3 from (Kp.below HX0.out (by omega)).trans (((((Kp.grown HG1.out (by omega) (by omega)).trans (Kp.grown HG2.out (by omega) (by omega)))).trans (HG3.out))))
        obtain ⟨q0, q1, q2, q3, q4, q5, q6, q7⟩ := (HBq.out).q8
        have hwz : w.heap.size ≤ w3.heap.size := HWn.out.size
        have hszW : wr.heap.size ≤ w3.heap.size := by omega
        have one8 : ∀ z ∈ ([.int .i64 2, .string (tx y.1.t), .bool false, .int .u64 0, .slice none 0 0, .slice none 0 0, .slice none 0 0, .slice none 0 0] : List Value), z.oneCell' = true := by intro z hz; simp at hz; rcases hz with rfl | rfl | rfl | rfl | rfl | rfl | rfl | rfl <;> rfl
        have hTn := HE.out.n
        have hmx := mS_le HE.out
        have hm1 := mS_alive HG.out
        have hn := HQ.out.2.2
        have m9 : acc.length + 1 ≤ maxLen := by unfold maxLen; omega
        have m8 : (acc.length + 1) * 136 ≤ 140737488355328 := by omega
        have HAt := Hd (show ExAt w3 (fun g => wr.heap.size < g) (.leaf 2 y.1.t) [.int .i64 2, .string (tx y.1.t), .bool false, .int .u64 0, .slice none 0 0, .slice none 0 0, .slice none 0 0, .slice none 0 0] from ExAt.leaf _ _ _ _)
        go_wp2_with (at_builtin; refine wpList_append_lies _ rfl _ _ 34 rfl w.heap.size 37 i0 (.agg #[.int .i64 0, .string ⟨#[]⟩, .bool false, .int .u64 0, .slice none 0 0, .slice none 0 0, .slice none 0 0, .slice none 0 0]) 8 136 Tryz.underlying34 hi0 hz0 hzs hzb rfl (by decide) (.slice aa acc.length cc) acc.length cs rfl (HOn.out.alloc _) ⟨w3.heap.size, 0, none⟩ 1 1 [.int .i64 2, .string (tx y.1.t), .bool false, .int .u64 0, .slice none 0 0, .slice none 0 0, .slice none 0 0, .slice none 0 0] rfl rfl (World.news_of_block (heap_alloc_new _ _)) one8 (by decide) m9 m8 (by simp; omega) _ rfl ?_; intro g9 cap9 w9 o1 o2 o3 o4)
        have hxx := (Below.refl w3.heap.size w3).alloc Nr (.cells #[.int .i64 2, .string (tx y.1.t), .bool false, .int .u64 0, .slice none 0 0, .slice none 0 0, .slice none 0 0, .slice none 0 0] 37)
        have hs5 := hxx.size
        have hlow : ∀ g, (Value.slice aa acc.length cc).ownBlock = some g → w.heap.size ≤ g := HL.out
        have hltO : ∀ g, (Value.slice aa acc.length cc).ownBlock = some g → g < wr.heap.size := HLt.out
        obtain ⟨q, hq, hg9⟩ := grown_some (b := b) o2 (fun g e => by have := hlow g e; omega)
        have hP9 := (HPn.out.later hxx).past hg9 hq
        have hlt9 := HLT.out
        have hfu := HQ.out.1
        have hm2 := HLM.out
        refine ⟨⟨_, acc ++ [.leaf 2 y.1.t], _, cs ++ [.int .i64 2, .string (tx y.1.t), .bool false, .int .u64 0, .slice none 0 0, .slice none 0 0, .slice none 0 0, .slice none 0 0], fu', rfl, hP9, grown_past (Gt HWn.out (grown_of hxx)) o2 hlow, by omega, HN.out, by simp; omega, by simpa using o1, ?_⟩, by rw [hP9.m, HS0.out.m]; exact hlt9⟩
        refine ExsAt.snoc (HXs.out.move (fun g hg lt => ?_)) (HAt.out.move (fun g hg lt => ?_))
        · refine ⟨⟨hg.1, fun e => ?_⟩, ((o2.block g (by omega) hg.2).trans (hxx.block g (by omega))).trans (HKn.out g hg.1 lt)⟩
          rcases o3 with h | h
          · exact hg.2 (e.trans h.symm)
          · have := Oi e
            simp at this h
            omega
        · have hg' : wr.heap.size < g := hg
          have hne9 : some g ≠ (Value.slice aa acc.length cc).ownBlock := fun e => by have := hltO g e.symm; omega
          refine ⟨⟨by omega, fun e => ?_⟩, (o2.block g (by omega) hne9).trans (hxx.block g (by omega))⟩
          rcases o3 with h | h
          · exact hne9 (e.trans h.symm)
          · have := Oi e
            simp at this h
            omega
      have HN2 := Hd hk
      have k2 : (kindL s'.r == 2) = false := by simp [hk]
      clear hk
      by_cases hk : kindL s'.r = 7
      · have kk : (kindL s'.r == 7) = true := by simp [hk]
        have hb' : begins s'.r := Or.inr (Or.inr (Or.inl hk))
        have hN := HN0.out
        rw [atoms_go HG.out hb'] at hN
        have ha : atomD (lastOf 1 T) (exprD (lastOf 1 T) k) s' = (.leaf 5 (tokD (lastOf 1 T) 7 s').1.1.t, (tokD (lastOf 1 T) 7 s').2) := by unfold atomD; rw [if_neg HN1.out, if_neg HN2.out]; rw [if_pos hk]
        rw [ha] at hN
        have hl := atom_lt (ll := (lastOf 1 T)) (ex := (exprD (lastOf 1 T) k)) (expr_mn k) HG.out hb'
        rw [ha] at hl
        have HC := Hd (dtok_any b T s' 7 (by decide) w1 H1.out.1)
        have HN9 := Hd (Ai hN hl)
        clear hN ha hb' hk hl
        generalize tokD (lastOf 1 T) 7 s' = Q at *
        obtain ⟨y, s2⟩ := Q
        have HN := Hd HN9.out.1
        have HLT : Hid (mS s2 < mS s') := Hd HN9.out.2
        have HLM := HLT
        clear HN9
        go_wp2_with fail
        refine HC.out.mono ?_
        rintro e w2 ⟨hv, hP, hg⟩
        unfold TokV at hv
        subst hv
        have hf1 := fun W => tok_field1 y.1.k (tx y.1.t) y.1.f y.1.x y.2 W
        have hf2 := fun W => tok_field2 y.1.k (tx y.1.t) y.1.f y.1.x y.2 W
        have HG2 := Hd hg
        have hsz2 : w1.heap.size ≤ w2.heap.size := hg.size
        have H2 := Hd (Ai (show PAt w2 b T s2 from hP) (Gt H1.out.2 hg))
        clear HC hP hg
        replace HBq := Hd (boxw_grown HBq.out HG2.out (by omega))
        obtain ⟨q0, q1, q2, q3, q4, q5, q6, q7⟩ := (HBq.out).q8
        obtain ⟨z0, z1, z2, z3, z4, z5, z6, z7⟩ := (HBq.out).z8
        go_upto_region 18 with fail
        obtain ⟨w3, hq⟩ : ∃ q, q = ((((((((w2.setCell ⟨wr.heap.size, 0, none⟩ (.int .i64 5)).setCell ⟨wr.heap.size, 1, none⟩ (.string (tx y.1.t))).setCell ⟨wr.heap.size, 2, none⟩ (.bool false)).setCell ⟨wr.heap.size, 3, none⟩ (.int .u64 0)).setCell ⟨wr.heap.size, 4, none⟩ (.slice none 0 0)).setCell ⟨wr.heap.size, 5, none⟩ (.slice none 0 0)).setCell ⟨wr.heap.size, 6, none⟩ (.slice none 0 0)).setCell ⟨wr.heap.size, 7, none⟩ (.slice none 0 0)) := ⟨_, rfl⟩
        have HBn := Hd (show BoxW w3 wr.heap.size [.int .i64 5, .string (tx y.1.t), .bool false, .int .u64 0, .slice none 0 0, .slice none 0 0, .slice none 0 0, .slice none 0 0] by subst hq; exact ((HBq.out)).b8)
        have H3 := Hd (Ai (show PAt w3 b T s2 by subst hq; exact (H2.out.1).o8 (show b < wr.heap.size by omega)) (show w.grownBy w3 (some b) by subst hq; exact (gn8 H2.out.2 (show w.heap.size ≤ wr.heap.size by omega))))
        have HG3 := Hd (show Kp w.heap.size wr.heap.size w2 w3 by subst hq; exact ((Kp.s8 (Or.inr Nr))))
        have hsz3 : w2.heap.size ≤ w3.heap.size := by subst hq; simp
        have HO3 := Hd (show w3.ownsRow w.heap.size 37 8 (.slice aa acc.length cc) acc.length cs by subst hq; exact (own_o8 (own_kept HO.out (Gt HG1.out HG2.out) (fun e => by have := HL.out b e; omega)) (fun g e e2 => by have := HLt.out g e; have := Oi e2; omega)))
        clear HBq
        have HBq := HBn
        clear HBn q0 z0 q1 z1 q2 z2 q3 z3 q4 z4 q5 z5 q6 z6 q7 z7 hf1 hf2
        rw [← hq]
        clear hq
        have HPn := Hd H3.out.1
        have HWn := Hd H3.out.2
        have HOn := HO3
        have HKn := Hd (show Kp w.heap.size wr.heap.size wr w3 from (Kp.below HX0.out (by omega)).trans (((((Kp.grown HG1.out (by omega) (by omega)).trans (Kp.grown HG2.out (by omega) (by omega)))).trans (HG3.out))))
        obtain ⟨q0, q1, q2, q3, q4, q5, q6, q7⟩ := (HBq.out).q8
        have hwz : w.heap.size ≤ w3.heap.size := HWn.out.size
        have hszW : wr.heap.size ≤ w3.heap.size := by omega
        have one8 : ∀ z ∈ ([.int .i64 5, .string (tx y.1.t), .bool false, .int .u64 0, .slice none 0 0, .slice none 0 0, .slice none 0 0, .slice none 0 0] : List Value), z.oneCell' = true := by intro z hz; simp at hz; rcases hz with rfl | rfl | rfl | rfl | rfl | rfl | rfl | rfl <;> rfl
        have hTn := HE.out.n
        have hmx := mS_le HE.out
        have hm1 := mS_alive HG.out
        have hn := HQ.out.2.2
        have m9 : acc.length + 1 ≤ maxLen := by unfold maxLen; omega
        have m8 : (acc.length + 1) * 136 ≤ 140737488355328 := by omega
        have HAt := Hd (show ExAt w3 (fun g => wr.heap.size < g) (.leaf 5 y.1.t) [.int .i64 5, .string (tx y.1.t), .bool false, .int .u64 0, .slice none 0 0, .slice none 0 0, .slice none 0 0, .slice none 0 0] from ExAt.leaf _ _ _ _)
        go_wp2_with (at_builtin; refine wpList_append_lies _ rfl _ _ 34 rfl w.heap.size 37 i0 (.agg #[.int .i64 0, .string ⟨#[]⟩, .bool false, .int .u64 0, .slice none 0 0, .slice none 0 0, .slice none 0 0, .slice none 0 0]) 8 136 Tryz.underlying34 hi0 hz0 hzs hzb rfl (by decide) (.slice aa acc.length cc) acc.length cs rfl (HOn.out.alloc _) ⟨w3.heap.size, 0, none⟩ 1 1 [.int .i64 5, .string (tx y.1.t), .bool false, .int .u64 0, .slice none 0 0, .slice none 0 0, .slice none 0 0, .slice none 0 0] rfl rfl (World.news_of_block (heap_alloc_new _ _)) one8 (by decide) m9 m8 (by simp; omega) _ rfl ?_; intro g9 cap9 w9 o1 o2 o3 o4)
        have hxx := (Below.refl w3.heap.size w3).alloc Nr (.cells #[.int .i64 5, .string (tx y.1.t), .bool false, .int .u64 0, .slice none 0 0, .slice none 0 0, .slice none 0 0, .slice none 0 0] 37)
        have hs5 := hxx.size
        have hlow : ∀ g, (Value.slice aa acc.length cc).ownBlock = some g → w.heap.size ≤ g := HL.out
        have hltO : ∀ g, (Value.slice aa acc.length cc).ownBlock = some g → g < wr.heap.size := HLt.out
        obtain ⟨q, hq, hg9⟩ := grown_some (b := b) o2 (fun g e => by have := hlow g e; omega)
        have hP9 := (HPn.out.later hxx).past hg9 hq
        have hlt9 := HLT.out
        have hfu := HQ.out.1
        have hm2 := HLM.out
        refine ⟨⟨_, acc ++ [.leaf 5 y.1.t], _, cs ++ [.int .i64 5, .string (tx y.1.t), .bool false, .int .u64 0, .slice none 0 0, .slice none 0 0, .slice none 0 0, .slice none 0 0], fu', rfl, hP9, grown_past (Gt HWn.out (grown_of hxx)) o2 hlow, by omega, HN.out, by simp; omega, by simpa using o1, ?_⟩, by rw [hP9.m, HS0.out.m]; exact hlt9⟩
        refine ExsAt.snoc (HXs.out.move (fun g hg lt => ?_)) (HAt.out.move (fun g hg lt => ?_))
        · refine ⟨⟨hg.1, fun e => ?_⟩, ((o2.block g (by omega) hg.2).trans (hxx.block g (by omega))).trans (HKn.out g hg.1 lt)⟩
          rcases o3 with h | h
          · exact hg.2 (e.trans h.symm)
          · have := Oi e
            simp at this h
            omega
        · have hg' : wr.heap.size < g := hg
          have hne9 : some g ≠ (Value.slice aa acc.length cc).ownBlock := fun e => by have := hltO g e.symm; omega
          refine ⟨⟨by omega, fun e => ?_⟩, (o2.block g (by omega) hne9).trans (hxx.block g (by omega))⟩
          rcases o3 with h | h
          · exact hne9 (e.trans h.symm)
          · have := Oi e
            simp at this h
            omega
      have HN7 := Hd hk
      have k7 : (kindL s'.r == 7) = false := by simp [hk]
      clear hk
      by_cases hk : kindL s'.r = 3
      · have kk : (kindL s'.r == 3) = true := by simp [hk]
        have hb' : begins s'.r := Or.inr (Or.inr (Or.inr (Or.inl hk)))
        have hN := HN0.out
        rw [atoms_go HG.out hb'] at hN
        have ha : atomD (lastOf 1 T) (exprD (lastOf 1 T) k) s' = (.num (tokD (lastOf 1 T) 3 s').1.1.f (tokD (lastOf 1 T) 3 s').1.1.x, (tokD (lastOf 1 T) 3 s').2) := by unfold atomD; rw [if_neg HN1.out, if_neg HN2.out, if_neg HN7.out]; rw [if_pos hk]
        rw [ha] at hN
        have hl := atom_lt (ll := (lastOf 1 T)) (ex := (exprD (lastOf 1 T) k)) (expr_mn k) HG.out hb'
        rw [ha] at hl
        have HC := Hd (dtok_any b T s' 3 (by decide) w1 H1.out.1)
        have HN9 := Hd (Ai hN hl)
        clear hN ha hb' hk hl
        generalize tokD (lastOf 1 T) 3 s' = Q at *
        obtain ⟨y, s2⟩ := Q
        have HN := Hd HN9.out.1
        have HLT : Hid (mS s2 < mS s') := Hd HN9.out.2
        have HLM := HLT
        clear HN9
        go_wp2_with fail
        refine HC.out.mono ?_
        rintro e w2 ⟨hv, hP, hg⟩
        unfold TokV at hv
        subst hv
        have hf1 := fun W => tok_field1 y.1.k (tx y.1.t) y.1.f y.1.x y.2 W
        have hf2 := fun W => tok_field2 y.1.k (tx y.1.t) y.1.f y.1.x y.2 W
        have HG2 := Hd hg
        have hsz2 : w1.heap.size ≤ w2.heap.size := hg.size
        have H2 := Hd (Ai (show PAt w2 b T s2 from hP) (Gt H1.out.2 hg))
        clear HC hP hg
        replace HBq := Hd (boxw_grown HBq.out HG2.out (by omega))
        obtain ⟨q0, q1, q2, q3, q4, q5, q6, q7⟩ := (HBq.out).q8
        obtain ⟨z0, z1, z2, z3, z4, z5, z6, z7⟩ := (HBq.out).z8
        go_upto_region 18 with fail
        obtain ⟨w3, hq⟩ : ∃ q, q = ((((((((w2.setCell ⟨wr.heap.size, 0, none⟩ (.int .i64 3)).setCell ⟨wr.heap.size, 1, none⟩ (.string ⟨#[]⟩)).setCell ⟨wr.heap.size, 2, none⟩ (.bool y.1.f)).setCell ⟨wr.heap.size, 3, none⟩ (.int .u64 y.1.x)).setCell ⟨wr.heap.size, 4, none⟩ (.slice none 0 0)).setCell ⟨wr.heap.size, 5, none⟩ (.slice none 0 0)).setCell ⟨wr.heap.size, 6, none⟩ (.slice none 0 0)).setCell ⟨wr.heap.size, 7, none⟩ (.slice none 0 0)) := ⟨_, rfl⟩
        have HBn := Hd (show BoxW w3 wr.heap.size [.int .i64 3, .string ⟨#[]⟩, .bool y.1.f, .int .u64 y.1.x, .slice none 0 0, .slice none 0 0, .slice none 0 0, .slice none 0 0] by subst hq; exact ((HBq.out)).b8)
        have H3 := Hd (Ai (show PAt w3 b T s2 by subst hq; exact (H2.out.1).o8 (show b < wr.heap.size by omega)) (show w.grownBy w3 (some b) by subst hq; exact (gn8 H2.out.2 (show w.heap.size ≤ wr.heap.size by omega))))
        have HG3 := Hd (show Kp w.heap.size wr.heap.size w2 w3 by subst hq; exact ((Kp.s8 (Or.inr Nr))))
        have hsz3 : w2.heap.size ≤ w3.heap.size := by subst hq; simp
        have HO3 := Hd (show w3.ownsRow w.heap.size 37 8 (.slice aa acc.length cc) acc.length cs by subst hq; exact (own_o8 (own_kept HO.out (Gt HG1.out HG2.out) (fun e => by have := HL.out b e; omega)) (fun g e e2 => by have := HLt.out g e; have := Oi e2; omega)))
        clear HBq
        have HBq := HBn
        clear HBn q0 z0 q1 z1 q2 z2 q3 z3 q4 z4 q5 z5 q6 z6 q7 z7 hf1 hf2
        rw [← hq]
        clear hq
        have HPn := Hd H3.out.1
        have HWn := Hd H3.out.2
        have HOn := HO3
        have HKn := Hd (show Kp w.heap.size wr.heap.size wr w3 from (Kp.below HX0.out (by omega)).trans (((((Kp.grown HG1.out (by omega) (by omega)).trans (Kp.grown HG2.out (by omega) (by omega)))).trans (HG3.out))))
        obtain ⟨q0, q1, q2, q3, q4, q5, q6, q7⟩ := (HBq.out).q8
        have hwz : w.heap.size ≤ w3.heap.size := HWn.out.size
        have hszW : wr.heap.size ≤ w3.heap.size := by omega
        have one8 : ∀ z ∈ ([.int .i64 3, .string ⟨#[]⟩, .bool y.1.f, .int .u64 y.1.x, .slice none 0 0, .slice none 0 0, .slice none 0 0, .slice none 0 0] : List Value), z.oneCell' = true := by intro z hz; simp at hz; rcases hz with rfl | rfl | rfl | rfl | rfl | rfl | rfl | rfl <;> rfl
        have hTn := HE.out.n
        have hmx := mS_le HE.out
        have hm1 := mS_alive HG.out
        have hn := HQ.out.2.2
        have m9 : acc.length + 1 ≤ maxLen := by unfold maxLen; omega
        have m8 : (acc.length + 1) * 136 ≤ 140737488355328 := by omega
        have HAt := Hd (show ExAt w3 (fun g => wr.heap.size < g) (.num y.1.f y.1.x) [.int .i64 3, .string ⟨#[]⟩, .bool y.1.f, .int .u64 y.1.x, .slice none 0 0, .slice none 0 0, .slice none 0 0, .slice none 0 0] from ExAt.num _ _ _ _)
        go_wp2_with (at_builtin; refine wpList_append_lies _ rfl _ _ 34 rfl w.heap.size 37 i0 (.agg #[.int .i64 0, .string ⟨#[]⟩, .bool false, .int .u64 0, .slice none 0 0, .slice none 0 0, .slice none 0 0, .slice none 0 0]) 8 136 Tryz.underlying34 hi0 hz0 hzs hzb rfl (by decide) (.slice aa acc.length cc) acc.length cs rfl (HOn.out.alloc _) ⟨w3.heap.size, 0, none⟩ 1 1 [.int .i64 3, .string ⟨#[]⟩, .bool y.1.f, .int .u64 y.1.x, .slice none 0 0, .slice none 0 0, .slice none 0 0, .slice none 0 0] rfl rfl (World.news_of_block (heap_alloc_new _ _)) one8 (by decide) m9 m8 (by simp; omega) _ rfl ?_; intro g9 cap9 w9 o1 o2 o3 o4)
        have hxx := (Below.refl w3.heap.size w3).alloc Nr (.cells #[.int .i64 3, .string ⟨#[]⟩, .bool y.1.f, .int .u64 y.1.x, .slice none 0 0, .slice none 0 0, .slice none 0 0, .slice none 0 0] 37)
        have hs5 := hxx.size
        have hlow : ∀ g, (Value.slice aa acc.length cc).ownBlock = some g → w.heap.size ≤ g := HL.out
        have hltO : ∀ g, (Value.slice aa acc.length cc).ownBlock = some g → g < wr.heap.size := HLt.out
        obtain ⟨q, hq, hg9⟩ := grown_some (b := b) o2 (fun g e => by have := hlow g e; omega)
        have hP9 := (HPn.out.later hxx).past hg9 hq
        have hlt9 := HLT.out
        have hfu := HQ.out.1
        have hm2 := HLM.out
        refine ⟨⟨_, acc ++ [.num y.1.f y.1.x], _, cs ++ [.int .i64 3, .string ⟨#[]⟩, .bool y.1.f, .int .u64 y.1.x, .slice none 0 0, .slice none 0 0, .slice none 0 0, .slice none 0 0], fu', rfl, hP9, grown_past (Gt HWn.out (grown_of hxx)) o2 hlow, by omega, HN.out, by simp; omega, by simpa using o1, ?_⟩, by rw [hP9.m, HS0.out.m]; exact hlt9⟩
        refine ExsAt.snoc (HXs.out.move (fun g hg lt => ?_)) (HAt.out.move (fun g hg lt => ?_))
        · refine ⟨⟨hg.1, fun e => ?_⟩, ((o2.block g (by omega) hg.2).trans (hxx.block g (by omega))).trans (HKn.out g hg.1 lt)⟩
          rcases o3 with h | h
          · exact hg.2 (e.trans h.symm)
          · have := Oi e
            simp at this h
            omega
        · have hg' : wr.heap.size < g := hg
          have hne9 : some g ≠ (Value.slice aa acc.length cc).ownBlock := fun e => by have := hltO g e.symm; omega
          refine ⟨⟨by omega, fun e => ?_⟩, (o2.block g (by omega) hne9).trans (hxx.block g (by omega))⟩
          rcases o3 with h | h
          · exact hne9 (e.trans h.symm)
          · have := Oi e
            simp at this h
            omega
      have HN3 := Hd hk
      have k3 : (kindL s'.r == 3) = false := by simp [hk]
      clear hk
      have hc := dsees_any b T s' [40] w1 H1.out.1
      by_cases hs : seesL [40] s'.r = true
      · rw [hs] at hc
        have hb' : begins s'.r := Or.inr (Or.inr (Or.inr (Or.inr hs)))
        have hN := HN0.out
        rw [atoms_go HG.out hb'] at hN
        have ha : atomD (lastOf 1 T) (exprD (lastOf 1 T) k) s' = (((exprD (lastOf 1 T) k) s'.next).1, needD (lastOf 1 T) [41] ((exprD (lastOf 1 T) k) s'.next).2) := by unfold atomD; rw [if_neg HN1.out, if_neg HN2.out, if_neg HN7.out, if_neg HN3.out]
        rw [ha] at hN
        have hl := atom_lt (ll := (lastOf 1 T)) (ex := (exprD (lastOf 1 T) k)) (expr_mn k) HG.out hb'
        rw [ha] at hl
        have HN := Hd hN
        have HLT : Hid (mS (needD (lastOf 1 T) [41] ((exprD (lastOf 1 T) k) s'.next).2) < mS s') := Hd hl
        have HLM := HLT
        have HNE := Hd (sees_ne hs)
        have HC := Hd hc
        clear hN ha hb' hl hs hc
        go_wp2_with fail
        refine HC.out.mono ?_
        rintro e w2 ⟨rfl, hb⟩
        have HG2 := Hd (grown_of (b := b) hb)
        have hsz2 : w1.heap.size ≤ w2.heap.size := hb.size
        have H2 := Hd (Ai (H1.out.1.later hb) (Gt H1.out.2 HG2.out))
        clear HC hb
        obtain ⟨i, hiT, hir, c1⟩ := H2.out.1.c1
        have y1 := H2.out.1.z 1
        have hTn := HE.out.n
        have ej : IntKind.i64.wrap ((i : Int) + 1) = (i : Int) + 1 := by rw [IntKind.wrap_i64]; omega
        replace HBq := Hd (boxw_grown HBq.out HG2.out (by omega))
        have hgs := set_grown w2 b 1 (.int .i64 ((i : Int) + 1))
        have hP3 := H2.out.1.next c1 HNE.out
        have hsz3 : w2.heap.size ≤ (w2.setCell ⟨b, 1, none⟩ (.int .i64 ((i : Int) + 1))).heap.size := by simp
        go_wp2_with fail
        have H3 := Hd (Ai hP3 (Gt H2.out.2 hgs))
        have HG3 := Hd hgs
        clear hP3 hgs hir hiT c1 y1
        generalize (w2.setCell ⟨b, 1, none⟩ (.int .i64 ((i : Int) + 1))) = w3 at *
        refine (hEx s'.next w3 H3.out.1).mono ?_
        rintro e w4 ⟨⟨k0, nm, f, u, vp, vk, vb, va, rfl, hat⟩, hP, hg⟩
        obtain ⟨⟨ap, np, cp, rfl⟩, ⟨ak, nk, ck, rfl⟩, ⟨ab, nb, cb, rfl⟩, ⟨a5, n5, c5, rfl⟩⟩ := hat.slices
        have HG4 := Hd hg
        have hsz4 : w3.heap.size ≤ w4.heap.size := hg.size
        have H4 := Hd (Ai hP (Gt H3.out.2 hg))
        have HAx := Hd hat
        clear hP hg hat
        replace HBq := Hd (boxw_grown HBq.out HG3.out (by omega))
        replace HBq := Hd (boxw_grown HBq.out HG4.out (by omega))
        obtain ⟨q0, q1, q2, q3, q4, q5, q6, q7⟩ := (HBq.out).q8
        obtain ⟨z0, z1, z2, z3, z4, z5, z6, z7⟩ := (HBq.out).z8
        go_upto_region 18 with fail
        obtain ⟨w5, hq⟩ : ∃ q, q = ((((((((w4.setCell ⟨wr.heap.size, 0, none⟩ (.int .i64 k0)).setCell ⟨wr.heap.size, 1, none⟩ (.string nm)).setCell ⟨wr.heap.size, 2, none⟩ (.bool f)).setCell ⟨wr.heap.size, 3, none⟩ (.int .u64 u)).setCell ⟨wr.heap.size, 4, none⟩ (.slice ap np cp)).setCell ⟨wr.heap.size, 5, none⟩ (.slice ak nk ck)).setCell ⟨wr.heap.size, 6, none⟩ (.slice ab nb cb)).setCell ⟨wr.heap.size, 7, none⟩ (.slice a5 n5 c5)) := ⟨_, rfl⟩
        have HBn := Hd (show BoxW w5 wr.heap.size [.int .i64 k0, .string nm, .bool f, .int .u64 u, .slice ap np cp, .slice ak nk ck, .slice ab nb cb, .slice a5 n5 c5] by subst hq; exact ((HBq.out)).b8)
        have H5 := Hd (Ai (show PAt w5 b T ((exprD (lastOf 1 T) k) s'.next).2 by subst hq; exact (H4.out.1).o8 (show b < wr.heap.size by omega)) (show w.grownBy w5 (some b) by subst hq; exact (gn8 H4.out.2 (show w.heap.size ≤ wr.heap.size by omega))))
        have HG5 := Hd (show Kp w.heap.size wr.heap.size w4 w5 by subst hq; exact ((Kp.s8 (Or.inr Nr))))
        have HK5 := Hd (show Kp w3.heap.size w4.heap.size w4 w5 by subst hq; exact ((Kp.s8 (Or.inl (by omega)))))
        have hsz5 : w4.heap.size ≤ w5.heap.size := by subst hq; simp
        have HO5 := Hd (show w5.ownsRow w.heap.size 37 8 (.slice aa acc.length cc) acc.length cs by subst hq; exact (own_o8 (own_kept HO.out (Gt (Gt (Gt HG1.out HG2.out) HG3.out) HG4.out) (fun e => by have := HL.out b e; omega)) (fun g e e2 => by have := HLt.out g e; have := Oi e2; omega)))
        clear HBq
        have HBq := HBn
        clear HBn q0 z0 q1 z1 q2 z2 q3 z3 q4 z4 q5 z5 q6 z6 q7 z7
        rw [← hq]
        clear hq
        refine (dneed_any b T ((exprD (lastOf 1 T) k) s'.next).2 [41] w5 H5.out.1).mono ?_
        rintro e w6 ⟨rfl, hP, hg⟩
        have HG6 := Hd hg
        have hsz6 : w5.heap.size ≤ w6.heap.size := hg.size
        have H6 := Hd (Ai hP (Gt H5.out.2 hg))
        have HO3 := Hd (own_kept HO5.out hg (fun e => by have := HL.out b e; omega))
        clear hP hg
        replace HBq := Hd (boxw_grown HBq.out HG6.out (by omega))
        have HPn := Hd H6.out.1
        have HWn := Hd H6.out.2
        have HOn := HO3
        have HKn := Hd (show Kp w.heap.size wr.heap.size wr w6 from (Kp.below HX0.out (by omega)).trans (((((((((((Kp.grown HG1.out (by omega) (by omega)).trans (Kp.grown HG2.out (by omega) (by omega)))).trans (Kp.grown HG3.out (by omega) (by omega)))).trans (Kp.grown HG4.out (by omega) (by omega)))).trans (HG5.out))).trans (Kp.grown HG6.out (by omega) (by omega)))))
        obtain ⟨q0, q1, q2, q3, q4, q5, q6, q7⟩ := (HBq.out).q8
        have hwz : w.heap.size ≤ w6.heap.size := HWn.out.size
        have hszW : wr.heap.size ≤ w6.heap.size := by omega
        have one8 : ∀ z ∈ ([.int .i64 k0, .string nm, .bool f, .int .u64 u, .slice ap np cp, .slice ak nk ck, .slice ab nb cb, .slice a5 n5 c5] : List Value), z.oneCell' = true := by intro z hz; simp at hz; rcases hz with rfl | rfl | rfl | rfl | rfl | rfl | rfl | rfl <;> rfl
        have hTn := HE.out.n
        have hmx := mS_le HE.out
        have hm1 := mS_alive HG.out
        have hn := HQ.out.2.2
        have m9 : acc.length + 1 ≤ maxLen := by unfold maxLen; omega
        have m8 : (acc.length + 1) * 136 ≤ 140737488355328 := by omega
        have HAt := Hd (show ExAt w6 (fun g => wr.heap.size < g) (((exprD (lastOf 1 T) k) s'.next).1) [.int .i64 k0, .string nm, .bool f, .int .u64 u, .slice ap np cp, .slice ak nk ck, .slice ab nb cb, .slice a5 n5 c5] from (HAx.out.kp (lo' := wr.heap.size + 1) (HK5.out.trans (Kp.grown HG6.out (by omega) (by omega))) (by omega)))
        go_wp2_with (at_builtin; refine wpList_append_lies _ rfl _ _ 34 rfl w.heap.size 37 i0 (.agg #[.int .i64 0, .string ⟨#[]⟩, .bool false, .int .u64 0, .slice none 0 0, .slice none 0 0, .slice none 0 0, .slice none 0 0]) 8 136 Tryz.underlying34 hi0 hz0 hzs hzb rfl (by decide) (.slice aa acc.length cc) acc.length cs rfl (HOn.out.alloc _) ⟨w6.heap.size, 0, none⟩ 1 1 [.int .i64 k0, .string nm, .bool f, .int .u64 u, .slice ap np cp, .slice ak nk ck, .slice ab nb cb, .slice a5 n5 c5] rfl rfl (World.news_of_block (heap_alloc_new _ _)) one8 (by decide) m9 m8 (by simp; omega) _ rfl ?_; intro g9 cap9 w9 o1 o2 o3 o4)
        have hxx := (Below.refl w6.heap.size w6).alloc Nr (.cells #[.int .i64 k0, .string nm, .bool f, .int .u64 u, .slice ap np cp, .slice ak nk ck, .slice ab nb cb, .slice a5 n5 c5] 37)
        have hs5 := hxx.size
        have hlow : ∀ g, (Value.slice aa acc.length cc).ownBlock = some g → w.heap.size ≤ g := HL.out
        have hltO : ∀ g, (Value.slice aa acc.length cc).ownBlock = some g → g < wr.heap.size := HLt.out
        obtain ⟨q, hq, hg9⟩ := grown_some (b := b) o2 (fun g e => by have := hlow g e; omega)
        have hP9 := (HPn.out.later hxx).past hg9 hq
        have hlt9 := HLT.out
        have hfu := HQ.out.1
        have hm2 := HLM.out
        refine ⟨⟨_, acc ++ [((exprD (lastOf 1 T) k) s'.next).1], _, cs ++ [.int .i64 k0, .string nm, .bool f, .int .u64 u, .slice ap np cp, .slice ak nk ck, .slice ab nb cb, .slice a5 n5 c5], fu', rfl, hP9, grown_past (Gt HWn.out (grown_of hxx)) o2 hlow, by omega, HN.out, by simp; omega, by simpa using o1, ?_⟩, by rw [hP9.m, HS0.out.m]; exact hlt9⟩
        refine ExsAt.snoc (HXs.out.move (fun g hg lt => ?_)) (HAt.out.move (fun g hg lt => ?_))
        · refine ⟨⟨hg.1, fun e => ?_⟩, ((o2.block g (by omega) hg.2).trans (hxx.block g (by omega))).trans (HKn.out g hg.1 lt)⟩
          rcases o3 with h | h
          · exact hg.2 (e.trans h.symm)
          · have := Oi e
            simp at this h
            omega
        · have hg' : wr.heap.size < g := hg
          have hne9 : some g ≠ (Value.slice aa acc.length cc).ownBlock := fun e => by have := hltO g e.symm; omega
          refine ⟨⟨by omega, fun e => ?_⟩, (o2.block g (by omega) hne9).trans (hxx.block g (by omega))⟩
          rcases o3 with h | h
          · exact hne9 (e.trans h.symm)
          · have := Oi e
            simp at this h
            omega
      · have hs' : seesL [40] s'.r = false := by simpa using hs
        rw [hs'] at hc
        have hb' : ¬ begins s'.r := by
          rintro (h | h | h | h | h)
          · exact HN1.out h
          · exact HN2.out h
          · exact HN7.out h
          · exact HN3.out h
          · exact hs h
        have hN := HN0.out
        rw [atoms_no hb'] at hN
        have HN := Hd hN
        have HC := Hd hc
        clear hN hb' hs hs' hc
        go_wp2_with fail
        refine HC.out.mono ?_
        rintro e w2 ⟨rfl, hb⟩
        have HG2 := Hd (grown_of (b := b) hb)
        have hsz2 : w1.heap.size ≤ w2.heap.size := hb.size
        have H2 := Hd (Ai (H1.out.1.later hb) (Gt H1.out.2 HG2.out))
        have HO2 := Hd (own_kept HO.out (Gt HG1.out HG2.out) (fun e => by have := HL.out b e; omega))
        have HK2 := Hd (show Kp w.heap.size wr.heap.size wr w2 from (Kp.below HX0.out (by omega)).trans ((Kp.grown HG1.out (by omega) (by omega)).trans (Kp.grown HG2.out (by omega) (by omega))))
        clear HC hb
        go_wp2_with fail
        refine bodyPost_ret (v := .slice aa acc.length cc) (by simp [results, Tryz.results150, go_sem]) rfl ?_
        rw [← HN.out]
        exact ⟨⟨_, cs, rfl, HO2.out, HXs.out.move (fun g hg lt => ⟨hg.1, HK2.out g hg.1 lt⟩)⟩, H2.out.1, H2.out.2⟩
    · have f0 : (s'.e == 0) = false := by simp [ge]
      rw [atoms_dead _ _ ge] at hN
      have HN := Hd hN
      have HO := Hd hown
      clear hN hP hg hown hex hfu hn hlow hltO
      go_wp2_with fail
      refine bodyPost_ret (v := .slice aa acc.length cc) (by simp [results, Tryz.results150, go_sem]) rfl ?_
      rw [← HN.out]
      exact ⟨⟨_, cs, rfl, HO.out, HXs.out.move (fun g hg lt => ⟨hg.1, rfl⟩)⟩, HW.out.1, HW.out.2⟩
end Go.Proofs.YthehgcmhcioffaaGreatDoor
