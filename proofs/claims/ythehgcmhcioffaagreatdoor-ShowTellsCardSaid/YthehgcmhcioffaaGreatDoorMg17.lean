import Derived.Test.YthehgcmhcioffaaGreatDoorMg16
namespace Go.Proofs.YthehgcmhcioffaaGreatDoor
set_option maxHeartbeats 64000000
set_option maxRecDepth 100000
open Go.RowKit Go.Lib
theorem dcase_any (b : Nat) (T : List Tok) (k : Nat) (hEx : ExprDC b T k) (dd : Int) (hd : IntKind.i64.wrap (dd + 1) = 201 - (k : Int)) (hle : ¬ (200 : Int) < dd) (s : St) (he : s.e = 0) (h1 : seesL [108, 101, 116] s.r = false) (h2 : seesL [99, 97, 115, 101] s.r = true) (w : World) (hP : PAt w b T s) : Calls Tryz.prog 102 #[.pointer (some ⟨b, 0, none⟩), .int .i64 dd] w (DSaid b T (ExV w.heap.size) (exprD (lastOf 1 T) (k + 1) s) w) := by
  have hlt : b < w.heap.size := hP.lt
  have hx := (Below.refl w.heap.size w).alloc Nr (.cells #[.int .i64 0, .string ⟨#[]⟩, .bool false, .int .u64 0, .slice none 0 0, .slice none 0 0, .slice none 0 0, .slice none 0 0] 37)
  have HX := Hd (Ai hx (BoxW.alloc w #[.int .i64 0, .string ⟨#[]⟩, .bool false, .int .u64 0, .slice none 0 0, .slice none 0 0, .slice none 0 0, .slice none 0 0] 37))
  have H0 := Hd (Ai (hP.later hx) (grown_of (b := b) (Below.refl (w.alloc (.cells #[.int .i64 0, .string ⟨#[]⟩, .bool false, .int .u64 0, .slice none 0 0, .slice none 0 0, .slice none 0 0, .slice none 0 0] 37)).heap.size (w.alloc (.cells #[.int .i64 0, .string ⟨#[]⟩, .bool false, .int .u64 0, .slice none 0 0, .slice none 0 0, .slice none 0 0, .slice none 0 0] 37)))))
  have HT0 := Hd hP.n
  clear hx hP
  go_enter Tryz.func102, Tryz.ntmps102
  go_upto_region 1 with fail
  have hsz0 : w.heap.size + 1 ≤ (w.alloc (.cells #[.int .i64 0, .string ⟨#[]⟩, .bool false, .int .u64 0, .slice none 0 0, .slice none 0 0, .slice none 0 0, .slice none 0 0] 37)).heap.size := by simp
  generalize (w.alloc (.cells #[.int .i64 0, .string ⟨#[]⟩, .bool false, .int .u64 0, .slice none 0 0, .slice none 0 0, .slice none 0 0, .slice none 0 0] 37)) = W at *
  have c2 := H0.out.1.c2
  have HD := Hd hd
  have HE0 := Hd he
  have f0 : (s.e != 0) = false := by simp [he]
  have hc := dsees_any b T (s) [108, 101, 116] W H0.out.1
  rw [h1] at hc
  have HC := Hd hc
  clear hc
  go_wp2_with fail
  refine HC.out.mono ?_
  rintro e w1 ⟨rfl, hb⟩
  have HG1 := Hd (grown_of (b := b) hb)
  have hsz1 : W.heap.size ≤ w1.heap.size := hb.size
  have H1 := Hd (Ai (H0.out.1.later hb) (Gt H0.out.2 HG1.out))
  clear HC hb
  have hc := dsees_any b T (s) [99, 97, 115, 101] w1 H1.out.1
  rw [h2] at hc
  have HC := Hd hc
  clear hc
  go_wp2_with fail
  refine HC.out.mono ?_
  rintro e w2 ⟨rfl, hb⟩
  have HG2 := Hd (grown_of (b := b) hb)
  have hsz2 : w1.heap.size ≤ w2.heap.size := hb.size
  have H2 := Hd (Ai (H1.out.1.later hb) (Gt H1.out.2 HG2.out))
  clear HC hb
  have HPv := Hd (expr_caseD (ll := (lastOf 1 T)) (k := k) he h1 h2)
  have HNE := Hd (sees_ne h2)
  clear h1 h2 he
  have HC := Hd (dchoice_any b T k hEx dd HD.out s HE0.out HNE.out w2 H2.out.1)
  go_wp2_with fail
  refine HC.out.mono ?_
  rintro e w9 ⟨⟨k0, nm, f, u, vp, vk, vb, va, rfl, hat⟩, hP, hg⟩
  obtain ⟨⟨ap, np, cp, rfl⟩, ⟨ak, nk, ck, rfl⟩, ⟨ab, nb, cb, rfl⟩, ⟨a5, n5, c5, rfl⟩⟩ := hat.slices
  have HAx := Hd hat
  have HG9 := Hd hg
  have hsz9 : w2.heap.size ≤ w9.heap.size := hg.size
  have H9 := Hd (Ai hP (Gt H2.out.2 hg))
  clear HC hat hP hg
  have hBp := boxw_grown HX.out.2 H9.out.2 (by omega)
  have d0 : w9.cell? ⟨w.heap.size, 0, none⟩ = some _ := hBp.1 0 _ rfl
  have d1 : w9.cell? ⟨w.heap.size, 1, none⟩ = some _ := hBp.1 1 _ rfl
  have d2 : w9.cell? ⟨w.heap.size, 2, none⟩ = some _ := hBp.1 2 _ rfl
  have d3 : w9.cell? ⟨w.heap.size, 3, none⟩ = some _ := hBp.1 3 _ rfl
  have d4 : w9.cell? ⟨w.heap.size, 4, none⟩ = some _ := hBp.1 4 _ rfl
  have d5 : w9.cell? ⟨w.heap.size, 5, none⟩ = some _ := hBp.1 5 _ rfl
  have d6 : w9.cell? ⟨w.heap.size, 6, none⟩ = some _ := hBp.1 6 _ rfl
  have d7 : w9.cell? ⟨w.heap.size, 7, none⟩ = some _ := hBp.1 7 _ rfl
  have z0 : w9.frozen? ⟨w.heap.size, 0, none⟩ = false := hBp.2 0
  have z1 : w9.frozen? ⟨w.heap.size, 1, none⟩ = false := hBp.2 1
  have z2 : w9.frozen? ⟨w.heap.size, 2, none⟩ = false := hBp.2 2
  have z3 : w9.frozen? ⟨w.heap.size, 3, none⟩ = false := hBp.2 3
  have z4 : w9.frozen? ⟨w.heap.size, 4, none⟩ = false := hBp.2 4
  have z5 : w9.frozen? ⟨w.heap.size, 5, none⟩ = false := hBp.2 5
  have z6 : w9.frozen? ⟨w.heap.size, 6, none⟩ = false := hBp.2 6
  have z7 : w9.frozen? ⟨w.heap.size, 7, none⟩ = false := hBp.2 7
  have HBp := Hd hBp
  clear hBp
  go_wp2_with fail
  have hF := ((((((((HBp.out.set 0 (show 0 < 8 by decide) (.int .i64 k0)).set 1 (show 1 < 8 by decide) (.string nm)).set 2 (show 2 < 8 by decide) (.bool f)).set 3 (show 3 < 8 by decide) (.int .u64 u)).set 4 (show 4 < 8 by decide) (.slice ap np cp)).set 5 (show 5 < 8 by decide) (.slice ak nk ck)).set 6 (show 6 < 8 by decide) (.slice ab nb cb)).set 7 (show 7 < 8 by decide) (.slice a5 n5 c5))
  have v0 := hF.1 0 _ rfl
  have v1 := hF.1 1 _ rfl
  have v2 := hF.1 2 _ rfl
  have v3 := hF.1 3 _ rfl
  have v4 := hF.1 4 _ rfl
  have v5 := hF.1 5 _ rfl
  have v6 := hF.1 6 _ rfl
  have v7 := hF.1 7 _ rfl
  refine bodyPost_ret (v := .agg #[.int .i64 k0, .string nm, .bool f, .int .u64 u, .slice ap np cp, .slice ak nk ck, .slice ab nb cb, .slice a5 n5 c5]) (by simp [results, Tryz.results102, go_sem, v0, v1, v2, v3, v4, v5, v6, v7]) rfl ?_
  rw [HPv.out]
  refine ⟨⟨_, _, _, _, _, _, _, _, rfl, HAx.out.kp (lo' := w.heap.size) (((((((((((((((Kp.set _ _ _ _ (Or.inl (by omega)))).trans (Kp.set _ _ _ _ (Or.inl (by omega))))).trans (Kp.set _ _ _ _ (Or.inl (by omega))))).trans (Kp.set _ _ _ _ (Or.inl (by omega))))).trans (Kp.set _ _ _ _ (Or.inl (by omega))))).trans (Kp.set _ _ _ _ (Or.inl (by omega))))).trans (Kp.set _ _ _ _ (Or.inl (by omega))))).trans (Kp.set _ _ _ _ (Or.inl (by omega)))) (by omega)⟩, ((((((((H9.out.1).over hlt _).over hlt _).over hlt _).over hlt _).over hlt _).over hlt _).over hlt _).over hlt _, (grown_new (grown_new (grown_new (grown_new (grown_new (grown_new (grown_new (grown_new (Gt (grown_of (b := b) HX.out.1) H9.out.2) Nr _) Nr _) Nr _) Nr _) Nr _) Nr _) Nr _) Nr _)⟩
theorem dexpr_all (b : Nat) (T : List Tok) : ∀ k, k ≤ 201 → ExprDC b T k
  | 0, _ => expr_zero b T
  | k + 1, hk => by
    have ih := dexpr_all b T k (by omega)
    have hd : IntKind.i64.wrap ((201 - ((k + 1 : Nat) : Int)) + 1) = 201 - (k : Int) := by rw [IntKind.wrap_i64]; omega
    have hle : ¬ (200 : Int) < 201 - ((k + 1 : Nat) : Int) := by omega
    intro s w hP
    by_cases he : s.e = 0
    · cases h1 : seesL [108, 101, 116] s.r with
      | true => exact dlet_any b T k ih _ hd trivial hle s he h1 w hP
      | false =>
        cases h2 : seesL [99, 97, 115, 101] s.r with
        | true => exact dcase_any b T k ih _ hd hle s he h1 h2 w hP
        | false => exact dexpr_any b T k ih _ hd hle s (fun _ => ⟨h1, h2⟩) w hP
    · exact dexpr_any b T k ih _ hd hle s (fun h => absurd h he) w hP
theorem decls_go {ll : Int} {fu : Nat} {acc : List (Nm × Int)} {s : St} (he : s.e = 0) (h : kindL s.r = 2) : declsD ll (fu + 1) acc s = declsD ll fu (acc ++ [((tokD ll 2 s).1.1.t, (tokD ll 3 (declD ll (tokD ll 2 s).2)).1.1.x)]) (tokD ll 3 (declD ll (tokD ll 2 s).2)).2 := by
  conv => lhs; unfold declsD
  exact if_pos ⟨he, h⟩
theorem decls_no {ll : Int} {fu : Nat} {acc : List (Nm × Int)} {s : St} (h : ¬ (s.e = 0 ∧ kindL s.r = 2)) : declsD ll fu acc s = (acc, s) := by
  cases fu with
  | zero => rfl
  | succ fu =>
    conv => lhs; unfold declsD
    exact if_neg h
theorem decl_small {ll : Int} {s : St} (hx : 0 ≤ (tokO s.r).1.x) : 0 ≤ (tokD ll 3 (declD ll s)).1.1.x ∧ (tokD ll 3 (declD ll s)).1.1.x ≤ 24 := by
  unfold declD
  split
  · rw [show tokD ll 3 (s.bad ll 1) = (tokO [], (s.bad ll 1).bad ll 3) from if_neg (fun h => bad_e (by decide) h.1)]
    exact ⟨Int.le_refl _, (by decide : (0 : Int) ≤ 24)⟩
  · rename_i h
    unfold tokD
    split
    · rename_i h2
      refine ⟨hx, ?_⟩
      rcases Int.lt_or_le 24 (tokO s.r).1.x with h3 | h3
      · exact absurd ⟨h2.2, Or.inr h3⟩ h
      · exact h3
    · exact ⟨Int.le_refl _, (by decide : (0 : Int) ≤ 24)⟩
theorem num_field1 (f : Bool) (x : Int) (W : World) : (Instr.field 33 (.agg #[.bool f, .int .u64 x]) 1).run Tryz.prog W = .ok (.int .u64 x) W := by
  obtain ⟨fs, h, h1⟩ : ∃ fs, Tryz.prog.underlying 33 = some (.struct fs) ∧ (fs[1]?.map fun f => (f.type, f.offset)) = some (31, 1) := ⟨_, rfl, by kernel_rfl⟩
  obtain ⟨f1, e1, g1⟩ := Option.map_eq_some_iff.1 h1
  simp only [Prod.mk.injEq] at g1
  simp [Instr.field, run_underlying h, e1, g1.1, g1.2, part, asAgg, Tryz.isAgg31, go_sem]
theorem tok_from {ll k : Int} {s : St} : (tokD ll k s).1 = tokO s.r ∨ (tokD ll k s).1 = tokO [] := by
  unfold tokD
  split
  · exact Or.inl rfl
  · exact Or.inr rfl
theorem ddata_any (b : Nat) (T : List Tok) (hx : ∀ y, y ∈ T → 0 ≤ y.1.x) (s : St) (w : World) (hP : PAt w b T s) : Calls Tryz.prog 58 #[.pointer (some ⟨b, 0, none⟩)] w (DSaid b T (fun o e w' => ∃ v, e = .returned v ∧ w'.ownsRow w.heap.size 69 2 v o.length (declV o)) (dataD (lastOf 1 T) s) w) := by
  have hbw : b < w.heap.size := hP.lt
  have hlt := hbw
  have HE := Hd hP
  have HX := Hd hx
  obtain ⟨i0, hi0, hz0, hzs, hzb⟩ := info_parts Tryz.info_decl
  clear hP hx
  go_enter Tryz.func58, Tryz.ntmps58
  go_wp2_with fail
  go_loopw [3] (fun s3 wr => ∃ (s' : St) (acc : List (Nm × Int)) (vv : Value) (fu : Nat), vv = s3 ∧ PAt wr b T s' ∧ w.grownBy wr (some b) ∧ mS s' ≤ fu ∧ declsD (lastOf 1 T) fu acc s' = declsD (lastOf 1 T) (s.r.length + 1) [] s ∧ acc.length + mS s' ≤ mS s ∧ wr.ownsRow w.heap.size 69 2 vv acc.length (declV acc)) (fun _ wr => stM T.length b wr)
  case atStart => exact ⟨s, [], _, _, rfl, HE.out, grown_of Br, by unfold mS; split <;> omega, rfl, by simp, World.ownsRow_nil _ _ _ _⟩
  case round =>
    obtain ⟨s', acc, vv, fu, rfl, hP, hg, hfu, hN, hn, hown⟩ := hrel
    obtain ⟨aa, cc, rfl, hlow⟩ := own_shape hown
    have c2 := hP.c2
    have HS0 := Hd hP
    have H0 := Hd (Ai hP hg)
    have HO := Hd hown
    have HL := Hd hlow
    have HQ := Hd (Ai hfu hn)
    have HN0 := Hd hN
    have hwr : w.heap.size ≤ wr.heap.size := hg.size
    by_cases ge : s'.e = 0
    · have f0 : (s'.e == 0) = true := by simp [ge]
      obtain ⟨fu', rfl⟩ : ∃ q, fu = q + 1 := ⟨fu - 1, by have := mS_alive ge; omega⟩
      have HG := Hd ge
      clear hP hg hfu hN hn hown hlow ge
      have HC := Hd (dkind_any b T s' wr H0.out.1)
      go_wp2_with fail
      refine HC.out.mono ?_
      rintro e w1 ⟨rfl, hb⟩
      have HG1 := Hd (grown_of (b := b) hb)
      have hsz1 : wr.heap.size ≤ w1.heap.size := hb.size
      have H1 := Hd (Ai (H0.out.1.later hb) (Gt H0.out.2 HG1.out))
      clear HC hb
      clear c2
      by_cases gk : kindL s'.r = 2
      · have kk : (kindL s'.r == 2) = true := by simp [gk]
        have hN := HN0.out
        rw [decls_go HG.out gk] at hN
        have hl := decl_lt (ll := (lastOf 1 T)) HG.out
        have HN9 := Hd (Ai hN hl)
        clear hN hl gk
        go_wp2_with fail
        have HT2 := Hd (dtok_any b T s' 2 (by decide) w1 H1.out.1)
        have HTr := Hd (tok_from (ll := (lastOf 1 T)) (k := 2) (s := s'))
        generalize tokD (lastOf 1 T) 2 s' = Q at *
        obtain ⟨y, s2⟩ := Q
        refine HT2.out.mono ?_
        rintro e w2 ⟨hv, hP, hg⟩
        unfold TokV at hv
        subst hv
        have hf1 := fun W => tok_field1 y.1.k (tx y.1.t) y.1.f y.1.x y.2 W
        have HG2 := Hd hg
        have hsz2 : w1.heap.size ≤ w2.heap.size := hg.size
        have H2 := Hd (Ai (show PAt w2 b T s2 from hP) (Gt H1.out.2 hg))
        clear HT2 hP hg
        have hy := (Below.refl w2.heap.size w2).alloc Nr (.cells #[.string (tx y.1.t), .int .i64 0] 69)
        have HBq := Hd (BoxW.alloc w2 #[.string (tx y.1.t), .int .i64 0] 69)
        have HG3 := Hd (grown_of (b := b) hy)
        have hsz3 : w2.heap.size + 1 ≤ (w2.alloc (.cells #[.string (tx y.1.t), .int .i64 0] 69)).heap.size := by simp
        have H3 := Hd (Ai (H2.out.1.later hy) (Gt H2.out.2 HG3.out))
        clear hy
        go_upto_region 4 with fail
        generalize (w2.alloc (.cells #[.string (tx y.1.t), .int .i64 0] 69)) = w3 at *
        clear hf1
        have HC := Hd (dkind_any b T s2 w3 H3.out.1)
        go_wp2_with fail
        refine HC.out.mono ?_
        rintro e w4 ⟨rfl, hb⟩
        have HG4 := Hd (grown_of (b := b) hb)
        have hsz4 : w3.heap.size ≤ w4.heap.size := hb.size
        have H4 := Hd (Ai (H3.out.1.later hb) (Gt H3.out.2 HG4.out))
        clear HC hb
        replace HBq := Hd (boxw_grown HBq.out HG4.out (by omega))
        by_cases g3 : kindL s2.r = 3
        · have k3 : (kindL s2.r == 3) = true := by simp [g3]
          obtain ⟨i, ag, cg, c0, hc, hm, c1, hi, hr, c2, c3, ht⟩ := H4.out.1.view
          have hlt' : i < T.length := by
            rcases Nat.lt_or_ge i T.length with h | h
            · exact h
            · exact absurd (hr.trans (List.drop_eq_nil_of_le h)) (kind_ne (by decide) g3)
          obtain ⟨gg, oo, rfl, hgb, htk⟩ := ht.resolve_left (by rintro rfl; simp at hlt')
          obtain ⟨x0, x1, x2, x3, x4⟩ := htk i hlt'
          have hto : tokO s2.r = T[i] := by rw [hr, List.drop_eq_getElem_cons hlt']; rfl
          have hx0 := HX.out T[i] (List.getElem_mem hlt')
          have hTl := H4.out.1.n
          generalize T[i] = u at *
          have b0 : (0 : Int) ≤ (i : Int) := by omega
          have b1 : (i : Int) < (T.length : Int) := by omega
          have hcm : T.length ≤ cg ∧ cg ≤ maxLen := ⟨hc, hm⟩
          unfold maxLen at hm
          have HU := Hd (Ai hto (Ai hx0 g3))
          clear ht htk hr g3 hto hx0
          go_wp2_with fail
          go_region_held3 (fun w' => w'.cell? ⟨b, 0, none⟩ = some (.slice (some ⟨gg, oo, none⟩) T.length cg) ∧ w'.cell? ⟨b, 1, none⟩ = some (.int .i64 i) ∧ w'.cell? ⟨gg, oo + i * 5 + 2, none⟩ = some (.bool u.1.f) ∧ w'.cell? ⟨gg, oo + i * 5 + 3, none⟩ = some (.int .u64 u.1.x)) (go_keep) (fail)
          rename_i hHeld
          clear hHeld c0 c1 c2 c3 x0 x1 x2 x3 x4
          have hy := ((Below.refl w4.heap.size w4).alloc Nr (.cells #[.bool u.1.f, .int .u64 u.1.x] 33)).drew
          have HNb := Hd (BoxW.alloc w4 #[.bool u.1.f, .int .u64 u.1.x] 33)
          have HG5 := Hd (grown_of (b := b) hy)
          have hsz5 : w4.heap.size ≤ (w4.alloc (.cells #[.bool u.1.f, .int .u64 u.1.x] 33)).drew.heap.size := hy.size
          have H5 := Hd (Ai (H4.out.1.later hy) (Gt H4.out.2 HG5.out))
          have n0 : (w4.alloc (.cells #[.bool u.1.f, .int .u64 u.1.x] 33)).drew.cell? ⟨w4.heap.size, 0, none⟩ = some (.bool u.1.f) := HNb.out.1 0 _ rfl
          have n1 : (w4.alloc (.cells #[.bool u.1.f, .int .u64 u.1.x] 33)).drew.cell? ⟨w4.heap.size, 1, none⟩ = some (.int .u64 u.1.x) := HNb.out.1 1 _ rfl
          clear hy HNb
          generalize (w4.alloc (.cells #[.bool u.1.f, .int .u64 u.1.x] 33)).drew = w5 at *
          have HX2 := Hd (show 0 ≤ (tokO s2.r).1.x by rw [HU.out.1]; exact HU.out.2.1)
          replace HBq := Hd (boxw_grown HBq.out HG5.out (by omega))
          by_cases gf : u.1.f = true
          · have HDq := Hd (show declD (lastOf 1 T) s2 = s2.bad (lastOf 1 T) 1 from if_pos ⟨HU.out.2.2, Or.inl (by rw [HU.out.1]; exact gf)⟩)
            have HC := Hd (dfault_any b T (s2) 1 w5 H5.out.1)
            go_wp2_with fail
            refine HC.out.mono ?_
            rintro e w6 ⟨rfl, hP, hg⟩
            have HG6 := Hd hg
            have hsz6 : w5.heap.size ≤ w6.heap.size := hg.size
            have H6 := Hd (Ai hP (Gt H5.out.2 hg))
            clear HC hP hg
            replace HBq := Hd (boxw_grown HBq.out HG6.out (by omega))
            have HZ := Hd (show 0 ≤ (tokD (lastOf 1 T) 3 (s2.bad (lastOf 1 T) 1)).1.1.x ∧ (tokD (lastOf 1 T) 3 (s2.bad (lastOf 1 T) 1)).1.1.x ≤ 24 from by rw [← HDq.out]; exact decl_small HX2.out)
            have HN := Hd (show declsD (lastOf 1 T) fu' (acc ++ [(y.1.t, (tokD (lastOf 1 T) 3 (s2.bad (lastOf 1 T) 1)).1.1.x)]) (tokD (lastOf 1 T) 3 (s2.bad (lastOf 1 T) 1)).2 = declsD (lastOf 1 T) (s.r.length + 1) [] s from HDq.out ▸ HN9.out.1)
            have HLT := Hd (show mS (tokD (lastOf 1 T) 3 (s2.bad (lastOf 1 T) 1)).2 < mS s' from HDq.out ▸ HN9.out.2)
            go_wp2_with fail
            have HT3 := Hd (dtok_any b T (s2.bad (lastOf 1 T) 1) 3 (by decide) w6 H6.out.1)
            generalize tokD (lastOf 1 T) 3 (s2.bad (lastOf 1 T) 1) = Q at *
            obtain ⟨z, s4⟩ := Q
            refine HT3.out.mono ?_
            rintro e w30 ⟨hv, hP, hg⟩
            unfold TokV at hv
            subst hv
            have hf2 := fun W => tok_field2 z.1.k (tx z.1.t) z.1.f z.1.x z.2 W
            have hf3 := fun W => num_field1 z.1.f z.1.x W
            have HG30 := Hd hg
            have hsz30 : w6.heap.size ≤ w30.heap.size := hg.size
            have H30 := Hd (Ai (show PAt w30 b T s4 from hP) (Gt H6.out.2 hg))
            clear HT3 hP hg
            skip
            have HBn := Hd (boxw_grown HBq.out HG30.out (by omega))
            have q0 : w30.cell? ⟨w2.heap.size, 0, none⟩ = some _ := HBn.out.1 0 _ rfl
            have q1 : w30.cell? ⟨w2.heap.size, 1, none⟩ = some _ := HBn.out.1 1 _ rfl
            have z1 : w30.frozen? ⟨w2.heap.size, 1, none⟩ = false := HBn.out.2 1
            have hz : 0 ≤ z.1.x ∧ z.1.x ≤ 24 := HZ.out
            have ez : IntKind.i64.wrap z.1.x = z.1.x := by rw [IntKind.wrap_i64]; omega
            have HEz := Hd hz
            clear hz
            go_upto_region 9 with fail
            have HBf := Hd (HBn.out.set 1 (show 1 < 2 by decide) (.int .i64 z.1.x))
            have HP9 := Hd (show PAt (w30.setCell ⟨w2.heap.size, 1, none⟩ (.int .i64 z.1.x)) b T s4 from H30.out.1.over (show b < w2.heap.size by omega) _)
            have HW9 := Hd (show w.grownBy (w30.setCell ⟨w2.heap.size, 1, none⟩ (.int .i64 z.1.x)) (some b) from grown_new H30.out.2 (show w.heap.size ≤ w2.heap.size by omega) _)
            have HOn := Hd (show (w30.setCell ⟨w2.heap.size, 1, none⟩ (.int .i64 z.1.x)).ownsRow w.heap.size 69 2 (.slice aa acc.length cc) acc.length (declV acc) from own_o (own_kept HO.out (Gt (Gt (Gt (Gt (Gt (Gt HG1.out HG2.out) HG3.out) HG4.out) HG5.out) HG6.out) HG30.out) (fun e => by have := HL.out b e; omega)) (set_grown _ w2.heap.size 1 _) (fun g e e2 => by have h1 := (HO.out.lt g e).2; have h2 : g = w2.heap.size := Oi e2; omega))
            have q0 : (w30.setCell ⟨w2.heap.size, 1, none⟩ (.int .i64 z.1.x)).cell? ⟨w2.heap.size, 0, none⟩ = some (.string (tx y.1.t)) := HBf.out.1 0 _ rfl
            have q1 : (w30.setCell ⟨w2.heap.size, 1, none⟩ (.int .i64 z.1.x)).cell? ⟨w2.heap.size, 1, none⟩ = some (.int .i64 z.1.x) := HBf.out.1 1 _ rfl
            have hszW : w30.heap.size ≤ (w30.setCell ⟨w2.heap.size, 1, none⟩ (.int .i64 z.1.x)).heap.size := by simp
            clear z1 hf2 hf3
            generalize (w30.setCell ⟨w2.heap.size, 1, none⟩ (.int .i64 z.1.x)) = w31 at *
            have one2 : ∀ u ∈ ([.string (tx y.1.t), .int .i64 z.1.x] : List Value), u.oneCell' = true := by intro u hu; simp at hu; rcases hu with rfl | rfl <;> rfl
            have hTn := HE.out.n
            have hmx := mS_le HE.out
            have hm1 := mS_alive HG.out
            have hn := HQ.out.2
            have hwz : w.heap.size ≤ w31.heap.size := HW9.out.size
            have m9 : acc.length + 1 ≤ maxLen := by unfold maxLen; omega
            have m8 : (acc.length + 1) * 24 ≤ 140737488355328 := by omega
            have hlA := declV_len acc
            go_wp2_with (at_builtin; refine wpList_append_lies _ rfl _ _ 23 rfl w.heap.size 69 i0 (.agg #[.string ⟨#[]⟩, .int .i64 0]) 2 24 Tryz.underlying23 hi0 hz0 hzs hzb rfl (by decide) (.slice aa acc.length cc) acc.length (declV acc) rfl (HOn.out.alloc _) ⟨w31.heap.size, 0, none⟩ 1 1 [.string (tx y.1.t), .int .i64 z.1.x] rfl rfl (World.news_of_block (heap_alloc_new _ _)) one2 (by decide) m9 m8 (by simp; omega) _ rfl ?_; intro g9 cap9 w9 o1 o2 o3 o4)
            have hxx := (Below.refl w31.heap.size w31).alloc Nr (.cells #[.string (tx y.1.t), .int .i64 z.1.x] 69)
            obtain ⟨q, hq, hg9⟩ := grown_some (b := b) o2 (fun g e => by have := HL.out g e; omega)
            have hP9 := (HP9.out.later hxx).past hg9 hq
            have hlt9 : mS s4 < mS s' := HLT.out
            have hfu := HQ.out.1
            refine ⟨⟨s4, acc ++ [(y.1.t, z.1.x)], _, fu', rfl, hP9, grown_past (Gt HW9.out (grown_of hxx)) o2 HL.out, by omega, HN.out, by simp; omega, ?_⟩, by rw [hP9.m, HS0.out.m]; exact hlt9⟩
            rw [declV_snoc]
            simpa using o1
          · have gf' : u.1.f = false := by simpa using gf
            clear gf
            by_cases gx : 24 < u.1.x
            · have HDq := Hd (show declD (lastOf 1 T) s2 = s2.bad (lastOf 1 T) 1 from if_pos ⟨HU.out.2.2, Or.inr (by rw [HU.out.1]; exact gx)⟩)
              have HC := Hd (dfault_any b T (s2) 1 w5 H5.out.1)
              go_wp2_with fail
              refine HC.out.mono ?_
              rintro e w6 ⟨rfl, hP, hg⟩
              have HG6 := Hd hg
              have hsz6 : w5.heap.size ≤ w6.heap.size := hg.size
              have H6 := Hd (Ai hP (Gt H5.out.2 hg))
              clear HC hP hg
              replace HBq := Hd (boxw_grown HBq.out HG6.out (by omega))
              have HZ := Hd (show 0 ≤ (tokD (lastOf 1 T) 3 (s2.bad (lastOf 1 T) 1)).1.1.x ∧ (tokD (lastOf 1 T) 3 (s2.bad (lastOf 1 T) 1)).1.1.x ≤ 24 from by rw [← HDq.out]; exact decl_small HX2.out)
              have HN := Hd (show declsD (lastOf 1 T) fu' (acc ++ [(y.1.t, (tokD (lastOf 1 T) 3 (s2.bad (lastOf 1 T) 1)).1.1.x)]) (tokD (lastOf 1 T) 3 (s2.bad (lastOf 1 T) 1)).2 = declsD (lastOf 1 T) (s.r.length + 1) [] s from HDq.out ▸ HN9.out.1)
              have HLT := Hd (show mS (tokD (lastOf 1 T) 3 (s2.bad (lastOf 1 T) 1)).2 < mS s' from HDq.out ▸ HN9.out.2)
              go_wp2_with fail
              have HT3 := Hd (dtok_any b T (s2.bad (lastOf 1 T) 1) 3 (by decide) w6 H6.out.1)
              generalize tokD (lastOf 1 T) 3 (s2.bad (lastOf 1 T) 1) = Q at *
              obtain ⟨z, s4⟩ := Q
              refine HT3.out.mono ?_
              rintro e w30 ⟨hv, hP, hg⟩
              unfold TokV at hv
              subst hv
              have hf2 := fun W => tok_field2 z.1.k (tx z.1.t) z.1.f z.1.x z.2 W
              have hf3 := fun W => num_field1 z.1.f z.1.x W
              have HG30 := Hd hg
              have hsz30 : w6.heap.size ≤ w30.heap.size := hg.size
              have H30 := Hd (Ai (show PAt w30 b T s4 from hP) (Gt H6.out.2 hg))
              clear HT3 hP hg
              skip
              have HBn := Hd (boxw_grown HBq.out HG30.out (by omega))
              have q0 : w30.cell? ⟨w2.heap.size, 0, none⟩ = some _ := HBn.out.1 0 _ rfl
              have q1 : w30.cell? ⟨w2.heap.size, 1, none⟩ = some _ := HBn.out.1 1 _ rfl
              have z1 : w30.frozen? ⟨w2.heap.size, 1, none⟩ = false := HBn.out.2 1
              have hz : 0 ≤ z.1.x ∧ z.1.x ≤ 24 := HZ.out
              have ez : IntKind.i64.wrap z.1.x = z.1.x := by rw [IntKind.wrap_i64]; omega
              have HEz := Hd hz
              clear hz
              go_upto_region 9 with fail
              have HBf := Hd (HBn.out.set 1 (show 1 < 2 by decide) (.int .i64 z.1.x))
              have HP9 := Hd (show PAt (w30.setCell ⟨w2.heap.size, 1, none⟩ (.int .i64 z.1.x)) b T s4 from H30.out.1.over (show b < w2.heap.size by omega) _)
              have HW9 := Hd (show w.grownBy (w30.setCell ⟨w2.heap.size, 1, none⟩ (.int .i64 z.1.x)) (some b) from grown_new H30.out.2 (show w.heap.size ≤ w2.heap.size by omega) _)
              have HOn := Hd (show (w30.setCell ⟨w2.heap.size, 1, none⟩ (.int .i64 z.1.x)).ownsRow w.heap.size 69 2 (.slice aa acc.length cc) acc.length (declV acc) from own_o (own_kept HO.out (Gt (Gt (Gt (Gt (Gt (Gt HG1.out HG2.out) HG3.out) HG4.out) HG5.out) HG6.out) HG30.out) (fun e => by have := HL.out b e; omega)) (set_grown _ w2.heap.size 1 _) (fun g e e2 => by have h1 := (HO.out.lt g e).2; have h2 : g = w2.heap.size := Oi e2; omega))
              have q0 : (w30.setCell ⟨w2.heap.size, 1, none⟩ (.int .i64 z.1.x)).cell? ⟨w2.heap.size, 0, none⟩ = some (.string (tx y.1.t)) := HBf.out.1 0 _ rfl
              have q1 : (w30.setCell ⟨w2.heap.size, 1, none⟩ (.int .i64 z.1.x)).cell? ⟨w2.heap.size, 1, none⟩ = some (.int .i64 z.1.x) := HBf.out.1 1 _ rfl
              have hszW : w30.heap.size ≤ (w30.setCell ⟨w2.heap.size, 1, none⟩ (.int .i64 z.1.x)).heap.size := by simp
              clear z1 hf2 hf3
              generalize (w30.setCell ⟨w2.heap.size, 1, none⟩ (.int .i64 z.1.x)) = w31 at *
              have one2 : ∀ u ∈ ([.string (tx y.1.t), .int .i64 z.1.x] : List Value), u.oneCell' = true := by intro u hu; simp at hu; rcases hu with rfl | rfl <;> rfl
              have hTn := HE.out.n
              have hmx := mS_le HE.out
              have hm1 := mS_alive HG.out
              have hn := HQ.out.2
              have hwz : w.heap.size ≤ w31.heap.size := HW9.out.size
              have m9 : acc.length + 1 ≤ maxLen := by unfold maxLen; omega
              have m8 : (acc.length + 1) * 24 ≤ 140737488355328 := by omega
              have hlA := declV_len acc
              go_wp2_with (at_builtin; refine wpList_append_lies _ rfl _ _ 23 rfl w.heap.size 69 i0 (.agg #[.string ⟨#[]⟩, .int .i64 0]) 2 24 Tryz.underlying23 hi0 hz0 hzs hzb rfl (by decide) (.slice aa acc.length cc) acc.length (declV acc) rfl (HOn.out.alloc _) ⟨w31.heap.size, 0, none⟩ 1 1 [.string (tx y.1.t), .int .i64 z.1.x] rfl rfl (World.news_of_block (heap_alloc_new _ _)) one2 (by decide) m9 m8 (by simp; omega) _ rfl ?_; intro g9 cap9 w9 o1 o2 o3 o4)
              have hxx := (Below.refl w31.heap.size w31).alloc Nr (.cells #[.string (tx y.1.t), .int .i64 z.1.x] 69)
              obtain ⟨q, hq, hg9⟩ := grown_some (b := b) o2 (fun g e => by have := HL.out g e; omega)
              have hP9 := (HP9.out.later hxx).past hg9 hq
              have hlt9 : mS s4 < mS s' := HLT.out
              have hfu := HQ.out.1
              refine ⟨⟨s4, acc ++ [(y.1.t, z.1.x)], _, fu', rfl, hP9, grown_past (Gt HW9.out (grown_of hxx)) o2 HL.out, by omega, HN.out, by simp; omega, ?_⟩, by rw [hP9.m, HS0.out.m]; exact hlt9⟩
              rw [declV_snoc]
              simpa using o1
            · have HDq := Hd (show declD (lastOf 1 T) s2 = s2 from if_neg (fun h => h.2.elim (fun h => by rw [HU.out.1, gf'] at h; exact absurd h (by decide)) (fun h => gx (by rw [HU.out.1] at h; exact h))))
              have HZ := Hd (show 0 ≤ (tokD (lastOf 1 T) 3 (s2)).1.1.x ∧ (tokD (lastOf 1 T) 3 (s2)).1.1.x ≤ 24 from by rw [← HDq.out]; exact decl_small HX2.out)
              have HN := Hd (show declsD (lastOf 1 T) fu' (acc ++ [(y.1.t, (tokD (lastOf 1 T) 3 (s2)).1.1.x)]) (tokD (lastOf 1 T) 3 (s2)).2 = declsD (lastOf 1 T) (s.r.length + 1) [] s from HDq.out ▸ HN9.out.1)
              have HLT := Hd (show mS (tokD (lastOf 1 T) 3 (s2)).2 < mS s' from HDq.out ▸ HN9.out.2)
              go_wp2_with fail
              have HT3 := Hd (dtok_any b T (s2) 3 (by decide) w5 H5.out.1)
              generalize tokD (lastOf 1 T) 3 (s2) = Q at *
              obtain ⟨z, s4⟩ := Q
              refine HT3.out.mono ?_
              rintro e w30 ⟨hv, hP, hg⟩
              unfold TokV at hv
              subst hv
              have hf2 := fun W => tok_field2 z.1.k (tx z.1.t) z.1.f z.1.x z.2 W
              have hf3 := fun W => num_field1 z.1.f z.1.x W
              have HG30 := Hd hg
              have hsz30 : w5.heap.size ≤ w30.heap.size := hg.size
              have H30 := Hd (Ai (show PAt w30 b T s4 from hP) (Gt H5.out.2 hg))
              clear HT3 hP hg
              skip
              have HBn := Hd (boxw_grown HBq.out HG30.out (by omega))
              have q0 : w30.cell? ⟨w2.heap.size, 0, none⟩ = some _ := HBn.out.1 0 _ rfl
              have q1 : w30.cell? ⟨w2.heap.size, 1, none⟩ = some _ := HBn.out.1 1 _ rfl
              have z1 : w30.frozen? ⟨w2.heap.size, 1, none⟩ = false := HBn.out.2 1
              have hz : 0 ≤ z.1.x ∧ z.1.x ≤ 24 := HZ.out
              have ez : IntKind.i64.wrap z.1.x = z.1.x := by rw [IntKind.wrap_i64]; omega
              have HEz := Hd hz
              clear hz
              go_upto_region 9 with fail
              have HBf := Hd (HBn.out.set 1 (show 1 < 2 by decide) (.int .i64 z.1.x))
              have HP9 := Hd (show PAt (w30.setCell ⟨w2.heap.size, 1, none⟩ (.int .i64 z.1.x)) b T s4 from H30.out.1.over (show b < w2.heap.size by omega) _)
              have HW9 := Hd (show w.grownBy (w30.setCell ⟨w2.heap.size, 1, none⟩ (.int .i64 z.1.x)) (some b) from grown_new H30.out.2 (show w.heap.size ≤ w2.heap.size by omega) _)
              have HOn := Hd (show (w30.setCell ⟨w2.heap.size, 1, none⟩ (.int .i64 z.1.x)).ownsRow w.heap.size 69 2 (.slice aa acc.length cc) acc.length (declV acc) from own_o (own_kept HO.out (Gt (Gt (Gt (Gt (Gt HG1.out HG2.out) HG3.out) HG4.out) HG5.out) HG30.out) (fun e => by have := HL.out b e; omega)) (set_grown _ w2.heap.size 1 _) (fun g e e2 => by have h1 := (HO.out.lt g e).2; have h2 : g = w2.heap.size := Oi e2; omega))
              have q0 : (w30.setCell ⟨w2.heap.size, 1, none⟩ (.int .i64 z.1.x)).cell? ⟨w2.heap.size, 0, none⟩ = some (.string (tx y.1.t)) := HBf.out.1 0 _ rfl
              have q1 : (w30.setCell ⟨w2.heap.size, 1, none⟩ (.int .i64 z.1.x)).cell? ⟨w2.heap.size, 1, none⟩ = some (.int .i64 z.1.x) := HBf.out.1 1 _ rfl
              have hszW : w30.heap.size ≤ (w30.setCell ⟨w2.heap.size, 1, none⟩ (.int .i64 z.1.x)).heap.size := by simp
              clear z1 hf2 hf3
              generalize (w30.setCell ⟨w2.heap.size, 1, none⟩ (.int .i64 z.1.x)) = w31 at *
              have one2 : ∀ u ∈ ([.string (tx y.1.t), .int .i64 z.1.x] : List Value), u.oneCell' = true := by intro u hu; simp at hu; rcases hu with rfl | rfl <;> rfl
              have hTn := HE.out.n
              have hmx := mS_le HE.out
              have hm1 := mS_alive HG.out
              have hn := HQ.out.2
              have hwz : w.heap.size ≤ w31.heap.size := HW9.out.size
              have m9 : acc.length + 1 ≤ maxLen := by unfold maxLen; omega
              have m8 : (acc.length + 1) * 24 ≤ 140737488355328 := by omega
              have hlA := declV_len acc
              go_wp2_with (at_builtin; refine wpList_append_lies _ rfl _ _ 23 rfl w.heap.size 69 i0 (.agg #[.string ⟨#[]⟩, .int .i64 0]) 2 24 Tryz.underlying23 hi0 hz0 hzs hzb rfl (by decide) (.slice aa acc.length cc) acc.length (declV acc) rfl (HOn.out.alloc _) ⟨w31.heap.size, 0, none⟩ 1 1 [.string (tx y.1.t), .int .i64 z.1.x] rfl rfl (World.news_of_block (heap_alloc_new _ _)) one2 (by decide) m9 m8 (by simp; omega) _ rfl ?_; intro g9 cap9 w9 o1 o2 o3 o4)
              have hxx := (Below.refl w31.heap.size w31).alloc Nr (.cells #[.string (tx y.1.t), .int .i64 z.1.x] 69)
              obtain ⟨q, hq, hg9⟩ := grown_some (b := b) o2 (fun g e => by have := HL.out g e; omega)
              have hP9 := (HP9.out.later hxx).past hg9 hq
              have hlt9 : mS s4 < mS s' := HLT.out
              have hfu := HQ.out.1
              refine ⟨⟨s4, acc ++ [(y.1.t, z.1.x)], _, fu', rfl, hP9, grown_past (Gt HW9.out (grown_of hxx)) o2 HL.out, by omega, HN.out, by simp; omega, ?_⟩, by rw [hP9.m, HS0.out.m]; exact hlt9⟩
              rw [declV_snoc]
              simpa using o1
        · have k3 : (kindL s2.r == 3) = false := by simp [g3]
          have HDq := Hd (show declD (lastOf 1 T) s2 = s2 from if_neg (fun h => g3 h.1))
          have HNk3 := Hd g3
          clear g3
          have HZ := Hd (show 0 ≤ (tokD (lastOf 1 T) 3 (s2)).1.1.x ∧ (tokD (lastOf 1 T) 3 (s2)).1.1.x ≤ 24 from by rw [show tokD (lastOf 1 T) 3 s2 = (tokO [], s2.bad (lastOf 1 T) 3) from if_neg (fun h => HNk3.out h.2)]; exact ⟨Int.le_refl _, (by decide : (0 : Int) ≤ 24)⟩)
          have HN := Hd (show declsD (lastOf 1 T) fu' (acc ++ [(y.1.t, (tokD (lastOf 1 T) 3 (s2)).1.1.x)]) (tokD (lastOf 1 T) 3 (s2)).2 = declsD (lastOf 1 T) (s.r.length + 1) [] s from HDq.out ▸ HN9.out.1)
          have HLT := Hd (show mS (tokD (lastOf 1 T) 3 (s2)).2 < mS s' from HDq.out ▸ HN9.out.2)
          go_wp2_with fail
          have HT3 := Hd (dtok_any b T (s2) 3 (by decide) w4 H4.out.1)
          generalize tokD (lastOf 1 T) 3 (s2) = Q at *
          obtain ⟨z, s4⟩ := Q
          refine HT3.out.mono ?_
          rintro e w30 ⟨hv, hP, hg⟩
          unfold TokV at hv
          subst hv
          have hf2 := fun W => tok_field2 z.1.k (tx z.1.t) z.1.f z.1.x z.2 W
          have hf3 := fun W => num_field1 z.1.f z.1.x W
          have HG30 := Hd hg
          have hsz30 : w4.heap.size ≤ w30.heap.size := hg.size
          have H30 := Hd (Ai (show PAt w30 b T s4 from hP) (Gt H4.out.2 hg))
          clear HT3 hP hg
          skip
          have HBn := Hd (boxw_grown HBq.out HG30.out (by omega))
          have q0 : w30.cell? ⟨w2.heap.size, 0, none⟩ = some _ := HBn.out.1 0 _ rfl
          have q1 : w30.cell? ⟨w2.heap.size, 1, none⟩ = some _ := HBn.out.1 1 _ rfl
          have z1 : w30.frozen? ⟨w2.heap.size, 1, none⟩ = false := HBn.out.2 1
          have hz : 0 ≤ z.1.x ∧ z.1.x ≤ 24 := HZ.out
          have ez : IntKind.i64.wrap z.1.x = z.1.x := by rw [IntKind.wrap_i64]; omega
          have HEz := Hd hz
          clear hz
          go_upto_region 9 with fail
          have HBf := Hd (HBn.out.set 1 (show 1 < 2 by decide) (.int .i64 z.1.x))
          have HP9 := Hd (show PAt (w30.setCell ⟨w2.heap.size, 1, none⟩ (.int .i64 z.1.x)) b T s4 from H30.out.1.over (show b < w2.heap.size by omega) _)
          have HW9 := Hd (show w.grownBy (w30.setCell ⟨w2.heap.size, 1, none⟩ (.int .i64 z.1.x)) (some b) from grown_new H30.out.2 (show w.heap.size ≤ w2.heap.size by omega) _)
          have HOn := Hd (show (w30.setCell ⟨w2.heap.size, 1, none⟩ (.int .i64 z.1.x)).ownsRow w.heap.size 69 2 (.slice aa acc.length cc) acc.length (declV acc) from own_o (own_kept HO.out (Gt (Gt (Gt (Gt HG1.out HG2.out) HG3.out) HG4.out) HG30.out) (fun e => by have := HL.out b e; omega)) (set_grown _ w2.heap.size 1 _) (fun g e e2 => by have h1 := (HO.out.lt g e).2; have h2 : g = w2.heap.size := Oi e2; omega))
          have q0 : (w30.setCell ⟨w2.heap.size, 1, none⟩ (.int .i64 z.1.x)).cell? ⟨w2.heap.size, 0, none⟩ = some (.string (tx y.1.t)) := HBf.out.1 0 _ rfl
          have q1 : (w30.setCell ⟨w2.heap.size, 1, none⟩ (.int .i64 z.1.x)).cell? ⟨w2.heap.size, 1, none⟩ = some (.int .i64 z.1.x) := HBf.out.1 1 _ rfl
          have hszW : w30.heap.size ≤ (w30.setCell ⟨w2.heap.size, 1, none⟩ (.int .i64 z.1.x)).heap.size := by simp
          clear z1 hf2 hf3
          generalize (w30.setCell ⟨w2.heap.size, 1, none⟩ (.int .i64 z.1.x)) = w31 at *
          have one2 : ∀ u ∈ ([.string (tx y.1.t), .int .i64 z.1.x] : List Value), u.oneCell' = true := by intro u hu; simp at hu; rcases hu with rfl | rfl <;> rfl
          have hTn := HE.out.n
          have hmx := mS_le HE.out
          have hm1 := mS_alive HG.out
          have hn := HQ.out.2
          have hwz : w.heap.size ≤ w31.heap.size := HW9.out.size
          have m9 : acc.length + 1 ≤ maxLen := by unfold maxLen; omega
          have m8 : (acc.length + 1) * 24 ≤ 140737488355328 := by omega
          have hlA := declV_len acc
          go_wp2_with (at_builtin; refine wpList_append_lies _ rfl _ _ 23 rfl w.heap.size 69 i0 (.agg #[.string ⟨#[]⟩, .int .i64 0]) 2 24 Tryz.underlying23 hi0 hz0 hzs hzb rfl (by decide) (.slice aa acc.length cc) acc.length (declV acc) rfl (HOn.out.alloc _) ⟨w31.heap.size, 0, none⟩ 1 1 [.string (tx y.1.t), .int .i64 z.1.x] rfl rfl (World.news_of_block (heap_alloc_new _ _)) one2 (by decide) m9 m8 (by simp; omega) _ rfl ?_; intro g9 cap9 w9 o1 o2 o3 o4)
          have hxx := (Below.refl w31.heap.size w31).alloc Nr (.cells #[.string (tx y.1.t), .int .i64 z.1.x] 69)
          obtain ⟨q, hq, hg9⟩ := grown_some (b := b) o2 (fun g e => by have := HL.out g e; omega)
          have hP9 := (HP9.out.later hxx).past hg9 hq
          have hlt9 : mS s4 < mS s' := HLT.out
          have hfu := HQ.out.1
          refine ⟨⟨s4, acc ++ [(y.1.t, z.1.x)], _, fu', rfl, hP9, grown_past (Gt HW9.out (grown_of hxx)) o2 HL.out, by omega, HN.out, by simp; omega, ?_⟩, by rw [hP9.m, HS0.out.m]; exact hlt9⟩
          rw [declV_snoc]
          simpa using o1
      · have kk : (kindL s'.r == 2) = false := by simp [gk]
        have hN := HN0.out
        rw [decls_no (fun h => gk h.2)] at hN
        have HN := Hd hN
        clear hN gk
        have HPu := Hd (show dataD (lastOf 1 T) s = ((declsD (lastOf 1 T) (s.r.length + 1) [] s).1, needD (lastOf 1 T) [59] (declsD (lastOf 1 T) (s.r.length + 1) [] s).2) from rfl)
        have HOe := Hd (own_kept HO.out HG1.out (fun e => by have := HL.out b e; omega))
        go_wp2_with fail
        refine (dneed_any b T s' [59] w1 H1.out.1).mono ?_
        rintro e w40 ⟨rfl, hP, hg⟩
        have H40 := Hd (Ai hP (Gt H1.out.2 hg))
        have HO40 := Hd (own_kept HOe.out hg (fun e => by have := HL.out b e; omega))
        clear hP hg
        go_wp2_with fail
        refine bodyPost_ret (v := .slice aa acc.length cc) (by simp [results, Tryz.results58, go_sem]) rfl ?_
        rw [HPu.out, ← HN.out]
        exact ⟨⟨_, rfl, HO40.out⟩, H40.out.1, H40.out.2⟩
    · have f0 : (s'.e == 0) = false := by simp [ge]
      rw [decls_no (fun h => ge h.1)] at hN
      have HN := Hd hN
      clear hN hP hg hown hfu hn hlow ge
      have HPu := Hd (show dataD (lastOf 1 T) s = ((declsD (lastOf 1 T) (s.r.length + 1) [] s).1, needD (lastOf 1 T) [59] (declsD (lastOf 1 T) (s.r.length + 1) [] s).2) from rfl)
      have HOe := Hd HO.out
      go_wp2_with fail
      refine (dneed_any b T s' [59] wr H0.out.1).mono ?_
      rintro e w40 ⟨rfl, hP, hg⟩
      have H40 := Hd (Ai hP (Gt H0.out.2 hg))
      have HO40 := Hd (own_kept HOe.out hg (fun e => by have := HL.out b e; omega))
      clear hP hg
      go_wp2_with fail
      refine bodyPost_ret (v := .slice aa acc.length cc) (by simp [results, Tryz.results58, go_sem]) rfl ?_
      rw [HPu.out, ← HN.out]
      exact ⟨⟨_, rfl, HO40.out⟩, H40.out.1, H40.out.2⟩
end Go.Proofs.YthehgcmhcioffaaGreatDoor
