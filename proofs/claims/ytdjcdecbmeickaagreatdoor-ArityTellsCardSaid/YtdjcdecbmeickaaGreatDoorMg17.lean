import Derived.Deep.RegionHeld
import Derived.Lib.ItoaLen
import Derived.Defers
import Derived.Recover
import Derived.Test.YtdjcdecbmeickaaGreatDoorMg1
import Derived.Test.YtdjcdecbmeickaaGreatDoorMg3
import Derived.Test.YtdjcdecbmeickaaGreatDoorMg4
import Derived.Test.YtdjcdecbmeickaaGreatDoorMg16
namespace Go.Proofs.YtdjcdecbmeickaaGreatDoor
set_option maxHeartbeats 64000000
set_option maxRecDepth 100000
open Go.RowKit Go.Lib
theorem dcase_any (b : Nat) (T : List Tok) (k : Nat) (hEx : ExprDC b T k) (dd : Int) (hd : IntKind.i64.wrap (dd + 1) = 201 - (k : Int)) (hle : ¬ (200 : Int) < dd) (s : St) (he : s.e = 0) (h1 : seesL [108, 101, 116] s.r = false) (h2 : seesL [99, 97, 115, 101] s.r = true) (w : World) (hP : PAt w b T s) : Calls Tryz.prog 53 #[.pointer (some ⟨b, 0, none⟩), .int .i64 dd] w (DSaid b T (ExV w.heap.size) (exprD (lastOf 1 T) (k + 1) s) w) := by
  have hlt : b < w.heap.size := hP.lt
  have hx := (Below.refl w.heap.size w).alloc Nr (.cells #[.int .i64 0, .string ⟨#[]⟩, .bool false, .int .u64 0, .slice none 0 0, .slice none 0 0, .slice none 0 0, .slice none 0 0] 57)
  have HX := Hd (Ai hx (BoxW.alloc w #[.int .i64 0, .string ⟨#[]⟩, .bool false, .int .u64 0, .slice none 0 0, .slice none 0 0, .slice none 0 0, .slice none 0 0] 57))
  have H0 := Hd (Ai (hP.later hx) (grown_of (b := b) (Below.refl (w.alloc (.cells #[.int .i64 0, .string ⟨#[]⟩, .bool false, .int .u64 0, .slice none 0 0, .slice none 0 0, .slice none 0 0, .slice none 0 0] 57)).heap.size (w.alloc (.cells #[.int .i64 0, .string ⟨#[]⟩, .bool false, .int .u64 0, .slice none 0 0, .slice none 0 0, .slice none 0 0, .slice none 0 0] 57)))))
  have HT0 := Hd hP.n
  clear hx hP
  go_enter Tryz.func53, Tryz.ntmps53
  go_upto_region 1 with fail
  have hsz0 : w.heap.size + 1 ≤ (w.alloc (.cells #[.int .i64 0, .string ⟨#[]⟩, .bool false, .int .u64 0, .slice none 0 0, .slice none 0 0, .slice none 0 0, .slice none 0 0] 57)).heap.size := by simp
  generalize (w.alloc (.cells #[.int .i64 0, .string ⟨#[]⟩, .bool false, .int .u64 0, .slice none 0 0, .slice none 0 0, .slice none 0 0, .slice none 0 0] 57)) = W at *
  have c2 := H0.out.1.c2
  have HD := Hd hd
  have HE0 := Hd he
  have f0 : (s.e != 0) = false := by simp [he]
  have hc := dsees_any b T (s) [108, 101, 116] W H0.out.1
  rw [h1] at hc
  have HC := Hd hc
  clear hc
  go_wp2_with fail
  refine HC.out.mono ?_
  rintro e w1 ⟨rfl, hb⟩
  have HG1 := Hd (grown_of (b := b) hb)
  have hsz1 : W.heap.size ≤ w1.heap.size := hb.size
  have H1 := Hd (Ai (H0.out.1.later hb) (Gt H0.out.2 HG1.out))
  clear HC hb
  have hc := dsees_any b T (s) [99, 97, 115, 101] w1 H1.out.1
  rw [h2] at hc
  have HC := Hd hc
  clear hc
  go_wp2_with fail
  refine HC.out.mono ?_
  rintro e w2 ⟨rfl, hb⟩
  have HG2 := Hd (grown_of (b := b) hb)
  have hsz2 : w1.heap.size ≤ w2.heap.size := hb.size
  have H2 := Hd (Ai (H1.out.1.later hb) (Gt H1.out.2 HG2.out))
  clear HC hb
  have HPv := Hd (expr_caseD (ll := (lastOf 1 T)) (k := k) he h1 h2)
  have HNE := Hd (sees_ne h2)
  clear h1 h2 he
  have HC := Hd (dchoice_any b T k hEx dd HD.out s HE0.out HNE.out w2 H2.out.1)
  go_wp2_with fail
  refine HC.out.mono ?_
  rintro e w9 ⟨⟨k0, nm, f, u, vp, vk, vb, va, rfl, hat⟩, hP, hg⟩
  obtain ⟨⟨ap, np, cp, rfl⟩, ⟨ak, nk, ck, rfl⟩, ⟨ab, nb, cb, rfl⟩, ⟨a5, n5, c5, rfl⟩⟩ := hat.slices
  have HAx := Hd hat
  have HG9 := Hd hg
  have hsz9 : w2.heap.size ≤ w9.heap.size := hg.size
  have H9 := Hd (Ai hP (Gt H2.out.2 hg))
  clear HC hat hP hg
  have hBp := boxw_grown HX.out.2 H9.out.2 (by omega)
  have d0 : w9.cell? ⟨w.heap.size, 0, none⟩ = some _ := hBp.1 0 _ rfl
  have d1 : w9.cell? ⟨w.heap.size, 1, none⟩ = some _ := hBp.1 1 _ rfl
  have d2 : w9.cell? ⟨w.heap.size, 2, none⟩ = some _ := hBp.1 2 _ rfl
  have d3 : w9.cell? ⟨w.heap.size, 3, none⟩ = some _ := hBp.1 3 _ rfl
  have d4 : w9.cell? ⟨w.heap.size, 4, none⟩ = some _ := hBp.1 4 _ rfl
  have d5 : w9.cell? ⟨w.heap.size, 5, none⟩ = some _ := hBp.1 5 _ rfl
  have d6 : w9.cell? ⟨w.heap.size, 6, none⟩ = some _ := hBp.1 6 _ rfl
  have d7 : w9.cell? ⟨w.heap.size, 7, none⟩ = some _ := hBp.1 7 _ rfl
  have z0 : w9.frozen? ⟨w.heap.size, 0, none⟩ = false := hBp.2 0
  have z1 : w9.frozen? ⟨w.heap.size, 1, none⟩ = false := hBp.2 1
  have z2 : w9.frozen? ⟨w.heap.size, 2, none⟩ = false := hBp.2 2
  have z3 : w9.frozen? ⟨w.heap.size, 3, none⟩ = false := hBp.2 3
  have z4 : w9.frozen? ⟨w.heap.size, 4, none⟩ = false := hBp.2 4
  have z5 : w9.frozen? ⟨w.heap.size, 5, none⟩ = false := hBp.2 5
  have z6 : w9.frozen? ⟨w.heap.size, 6, none⟩ = false := hBp.2 6
  have z7 : w9.frozen? ⟨w.heap.size, 7, none⟩ = false := hBp.2 7
  have HBp := Hd hBp
  clear hBp
  go_wp2_with fail
  have hF := ((((((((HBp.out.set 0 (show 0 < 8 by decide) (.int .i64 k0)).set 1 (show 1 < 8 by decide) (.string nm)).set 2 (show 2 < 8 by decide) (.bool f)).set 3 (show 3 < 8 by decide) (.int .u64 u)).set 4 (show 4 < 8 by decide) (.slice ap np cp)).set 5 (show 5 < 8 by decide) (.slice ak nk ck)).set 6 (show 6 < 8 by decide) (.slice ab nb cb)).set 7 (show 7 < 8 by decide) (.slice a5 n5 c5))
  have v0 := hF.1 0 _ rfl
  have v1 := hF.1 1 _ rfl
  have v2 := hF.1 2 _ rfl
  have v3 := hF.1 3 _ rfl
  have v4 := hF.1 4 _ rfl
  have v5 := hF.1 5 _ rfl
  have v6 := hF.1 6 _ rfl
  have v7 := hF.1 7 _ rfl
  refine bodyPost_ret (v := .agg #[.int .i64 k0, .string nm, .bool f, .int .u64 u, .slice ap np cp, .slice ak nk ck, .slice ab nb cb, .slice a5 n5 c5]) (by simp [results, Tryz.results53, go_sem, v0, v1, v2, v3, v4, v5, v6, v7]) rfl ?_
  rw [HPv.out]
  refine ⟨⟨_, _, _, _, _, _, _, _, rfl, HAx.out.kp (lo' := w.heap.size) (((((((((((((((Kp.set _ _ _ _ (Or.inl (by omega)))).trans (Kp.set _ _ _ _ (Or.inl (by omega))))).trans (Kp.set _ _ _ _ (Or.inl (by omega))))).trans (Kp.set _ _ _ _ (Or.inl (by omega))))).trans (Kp.set _ _ _ _ (Or.inl (by omega))))).trans (Kp.set _ _ _ _ (Or.inl (by omega))))).trans (Kp.set _ _ _ _ (Or.inl (by omega))))).trans (Kp.set _ _ _ _ (Or.inl (by omega)))) (by omega)⟩, ((((((((H9.out.1).over hlt _).over hlt _).over hlt _).over hlt _).over hlt _).over hlt _).over hlt _).over hlt _, (grown_new (grown_new (grown_new (grown_new (grown_new (grown_new (grown_new (grown_new (Gt (grown_of (b := b) HX.out.1) H9.out.2) Nr _) Nr _) Nr _) Nr _) Nr _) Nr _) Nr _) Nr _)⟩
theorem dexpr_all (b : Nat) (T : List Tok) : ∀ k, k ≤ 201 → ExprDC b T k
  | 0, _ => expr_zero b T
  | k + 1, hk => by
    have ih := dexpr_all b T k (by omega)
    have hd : IntKind.i64.wrap ((201 - ((k + 1 : Nat) : Int)) + 1) = 201 - (k : Int) := by rw [IntKind.wrap_i64]; omega
    have hle : ¬ (200 : Int) < 201 - ((k + 1 : Nat) : Int) := by omega
    intro s w hP
    by_cases he : s.e = 0
    · cases h1 : seesL [108, 101, 116] s.r with
      | true => exact dlet_any b T k ih _ hd trivial hle s he h1 w hP
      | false =>
        cases h2 : seesL [99, 97, 115, 101] s.r with
        | true => exact dcase_any b T k ih _ hd hle s he h1 h2 w hP
        | false => exact dexpr_any b T k ih _ hd hle s (fun _ => ⟨h1, h2⟩) w hP
    · exact dexpr_any b T k ih _ hd hle s (fun h => absurd h he) w hP
theorem decls_go {ll : Int} {fu : Nat} {acc : List (Nm × Int)} {s : St} (he : s.e = 0) (h : kindL s.r = 2) : declsD ll (fu + 1) acc s = declsD ll fu (acc ++ [((tokD ll 2 s).1.1.t, (tokD ll 3 (declD ll (tokD ll 2 s).2)).1.1.x)]) (tokD ll 3 (declD ll (tokD ll 2 s).2)).2 := by
  conv => lhs; unfold declsD
  exact if_pos ⟨he, h⟩
theorem decls_no {ll : Int} {fu : Nat} {acc : List (Nm × Int)} {s : St} (h : ¬ (s.e = 0 ∧ kindL s.r = 2)) : declsD ll fu acc s = (acc, s) := by
  cases fu with
  | zero => rfl
  | succ fu =>
    conv => lhs; unfold declsD
    exact if_neg h
theorem decl_small {ll : Int} {s : St} (hx : 0 ≤ (tokO s.r).1.x) : 0 ≤ (tokD ll 3 (declD ll s)).1.1.x ∧ (tokD ll 3 (declD ll s)).1.1.x ≤ 24 := by
  unfold declD
  split
  · rw [show tokD ll 3 (s.bad ll 1) = (tokO [], (s.bad ll 1).bad ll 3) from if_neg (fun h => bad_e (by decide) h.1)]
    exact ⟨Int.le_refl _, (by decide : (0 : Int) ≤ 24)⟩
  · rename_i h
    unfold tokD
    split
    · rename_i h2
      refine ⟨hx, ?_⟩
      rcases Int.lt_or_le 24 (tokO s.r).1.x with h3 | h3
      · exact absurd ⟨h2.2, Or.inr h3⟩ h
      · exact h3
    · exact ⟨Int.le_refl _, (by decide : (0 : Int) ≤ 24)⟩
theorem num_field1 (f : Bool) (x : Int) (W : World) : (Instr.field 53 (.agg #[.bool f, .int .u64 x]) 1).run Tryz.prog W = .ok (.int .u64 x) W := by
  obtain ⟨fs, h, h1⟩ : ∃ fs, Tryz.prog.underlying 53 = some (.struct fs) ∧ (fs[1]?.map fun f => (f.type, f.offset)) = some (51, 1) := ⟨_, rfl, by kernel_rfl⟩
  obtain ⟨f1, e1, g1⟩ := Option.map_eq_some_iff.1 h1
  simp only [Prod.mk.injEq] at g1
  simp [Instr.field, run_underlying h, e1, g1.1, g1.2, part, asAgg, Tryz.isAgg51, go_sem]
theorem tok_from {ll k : Int} {s : St} : (tokD ll k s).1 = tokO s.r ∨ (tokD ll k s).1 = tokO [] := by
  unfold tokD
  split
  · exact Or.inl rfl
  · exact Or.inr rfl
theorem ddata_any (b : Nat) (T : List Tok) (hx : ∀ y, y ∈ T → 0 ≤ y.1.x) (s : St) (w : World) (hP : PAt w b T s) : Calls Tryz.prog 23 #[.pointer (some ⟨b, 0, none⟩)] w (DSaid b T (fun o e w' => ∃ v, e = .returned v ∧ w'.ownsRow w.heap.size 92 2 v o.length (declV o)) (dataD (lastOf 1 T) s) w) := by
  have hbw : b < w.heap.size := hP.lt
  have hlt := hbw
  have HE := Hd hP
  have HX := Hd hx
  obtain ⟨i0, hi0, hz0, hzs, hzb⟩ := info_parts Tryz.info_decl
  clear hP hx
  go_enter Tryz.func23, Tryz.ntmps23
  go_wp2_with fail
  go_loopw [3] (fun s3 wr => ∃ (s' : St) (acc : List (Nm × Int)) (vv : Value) (fu : Nat), vv = s3 ∧ PAt wr b T s' ∧ w.grownBy wr (some b) ∧ mS s' ≤ fu ∧ declsD (lastOf 1 T) fu acc s' = declsD (lastOf 1 T) (s.r.length + 1) [] s ∧ acc.length + mS s' ≤ mS s ∧ wr.ownsRow w.heap.size 92 2 vv acc.length (declV acc)) (fun _ wr => stM T.length b wr)
  case atStart => exact ⟨s, [], _, _, rfl, HE.out, grown_of Br, by unfold mS; split <;> omega, rfl, by simp, World.ownsRow_nil _ _ _ _⟩
  case round =>
    obtain ⟨s', acc, vv, fu, rfl, hP, hg, hfu, hN, hn, hown⟩ := hrel
    obtain ⟨aa, cc, rfl, hlow⟩ := own_shape hown
    have c2 := hP.c2
    have HS0 := Hd hP
    have H0 := Hd (Ai hP hg)
    have HO := Hd hown
    have HL := Hd hlow
    have HQ := Hd (Ai hfu hn)
    have HN0 := Hd hN
    have hwr : w.heap.size ≤ wr.heap.size := hg.size
    by_cases ge : s'.e = 0
    · have f0 : (s'.e == 0) = true := by simp [ge]
      obtain ⟨fu', rfl⟩ : ∃ q, fu = q + 1 := ⟨fu - 1, by have := mS_alive ge; omega⟩
      have HG := Hd ge
      clear hP hg hfu hN hn hown hlow ge
      have HC := Hd (dkind_any b T s' wr H0.out.1)
      go_wp2_with fail
      refine HC.out.mono ?_
      rintro e w1 ⟨rfl, hb⟩
      have HG1 := Hd (grown_of (b := b) hb)
      have hsz1 : wr.heap.size ≤ w1.heap.size := hb.size
      have H1 := Hd (Ai (H0.out.1.later hb) (Gt H0.out.2 HG1.out))
      clear HC hb
      clear c2
      by_cases gk : kindL s'.r = 2
      · have kk : (kindL s'.r == 2) = true := by simp [gk]
        have hN := HN0.out
        rw [decls_go HG.out gk] at hN
        have hl := decl_lt (ll := (lastOf 1 T)) HG.out
        have HN9 := Hd (Ai hN hl)
        clear hN hl gk
        go_wp2_with fail
        have HT2 := Hd (dtok_any b T s' 2 (by decide) w1 H1.out.1)
        have HTr := Hd (tok_from (ll := (lastOf 1 T)) (k := 2) (s := s'))
        generalize tokD (lastOf 1 T) 2 s' = Q at *
        obtain ⟨y, s2⟩ := Q
        refine HT2.out.mono ?_
        rintro e w2 ⟨hv, hP, hg⟩
        unfold TokV at hv
        subst hv
        have hf1 := fun W => tok_field1 y.1.k (tx y.1.t) y.1.f y.1.x y.2 W
        have HG2 := Hd hg
        have hsz2 : w1.heap.size ≤ w2.heap.size := hg.size
        have H2 := Hd (Ai (show PAt w2 b T s2 from hP) (Gt H1.out.2 hg))
        clear HT2 hP hg
        have hy := (Below.refl w2.heap.size w2).alloc Nr (.cells #[.string (tx y.1.t), .int .i64 0] 92)
        have HBq := Hd (BoxW.alloc w2 #[.string (tx y.1.t), .int .i64 0] 92)
        have HG3 := Hd (grown_of (b := b) hy)
        have hsz3 : w2.heap.size + 1 ≤ (w2.alloc (.cells #[.string (tx y.1.t), .int .i64 0] 92)).heap.size := by simp
        have H3 := Hd (Ai (H2.out.1.later hy) (Gt H2.out.2 HG3.out))
        clear hy
        go_upto_region 4 with fail
        generalize (w2.alloc (.cells #[.string (tx y.1.t), .int .i64 0] 92)) = w3 at *
        clear hf1
        have HC := Hd (dkind_any b T s2 w3 H3.out.1)
        go_wp2_with fail
        refine HC.out.mono ?_
        rintro e w4 ⟨rfl, hb⟩
        have HG4 := Hd (grown_of (b := b) hb)
        have hsz4 : w3.heap.size ≤ w4.heap.size := hb.size
        have H4 := Hd (Ai (H3.out.1.later hb) (Gt H3.out.2 HG4.out))
        clear HC hb
        replace HBq := Hd (boxw_grown HBq.out HG4.out (by omega))
        by_cases g3 : kindL s2.r = 3
        · have k3 : (kindL s2.r == 3) = true := by simp [g3]
          obtain ⟨i, ag, cg, c0, hc, hm, c1, hi, hr, c2, c3, ht⟩ := H4.out.1.view
          have hlt' : i < T.length := by
            rcases Nat.lt_or_ge i T.length with h | h
            · exact h
            · exact absurd (hr.trans (List.drop_eq_nil_of_le h)) (kind_ne (by decide) g3)
          obtain ⟨gg, oo, rfl, hgb, htk⟩ := ht.resolve_left (by rintro rfl; simp at hlt')
          obtain ⟨x0, x1, x2, x3, x4⟩ := htk i hlt'
          have hto : tokO s2.r = T[i] := by rw [hr, List.drop_eq_getElem_cons hlt']; rfl
          have hx0 := HX.out T[i] (List.getElem_mem hlt')
          have hTl := H4.out.1.n
          generalize T[i] = u at *
          have b0 : (0 : Int) ≤ (i : Int) := by omega
          have b1 : (i : Int) < (T.length : Int) := by omega
          have hcm : T.length ≤ cg ∧ cg ≤ maxLen := ⟨hc, hm⟩
          unfold maxLen at hm
          have HU := Hd (Ai hto (Ai hx0 g3))
          clear ht htk hr g3 hto hx0
          go_wp2_with fail
          go_region_held3 (fun w' => w'.cell? ⟨b, 0, none⟩ = some (.slice (some ⟨gg, oo, none⟩) T.length cg) ∧ w'.cell? ⟨b, 1, none⟩ = some (.int .i64 i) ∧ w'.cell? ⟨gg, oo + i * 5 + 2, none⟩ = some (.bool u.1.f) ∧ w'.cell? ⟨gg, oo + i * 5 + 3, none⟩ = some (.int .u64 u.1.x)) (go_keep) (fail)
          rename_i hHeld
          clear hHeld c0 c1 c2 c3 x0 x1 x2 x3 x4
          have hy := ((Below.refl w4.heap.size w4).alloc Nr (.cells #[.bool u.1.f, .int .u64 u.1.x] 53)).drew
          have HNb := Hd (BoxW.alloc w4 #[.bool u.1.f, .int .u64 u.1.x] 53)
          have HG5 := Hd (grown_of (b := b) hy)
          have hsz5 : w4.heap.size ≤ (w4.alloc (.cells #[.bool u.1.f, .int .u64 u.1.x] 53)).drew.heap.size := hy.size
          have H5 := Hd (Ai (H4.out.1.later hy) (Gt H4.out.2 HG5.out))
          have n0 : (w4.alloc (.cells #[.bool u.1.f, .int .u64 u.1.x] 53)).drew.cell? ⟨w4.heap.size, 0, none⟩ = some (.bool u.1.f) := HNb.out.1 0 _ rfl
          have n1 : (w4.alloc (.cells #[.bool u.1.f, .int .u64 u.1.x] 53)).drew.cell? ⟨w4.heap.size, 1, none⟩ = some (.int .u64 u.1.x) := HNb.out.1 1 _ rfl
          clear hy HNb
          generalize (w4.alloc (.cells #[.bool u.1.f, .int .u64 u.1.x] 53)).drew = w5 at *
          have HX2 := Hd (show 0 ≤ (tokO s2.r).1.x by rw [HU.out.1]; exact HU.out.2.1)
          replace HBq := Hd (boxw_grown HBq.out HG5.out (by omega))
          by_cases gf : u.1.f = true
          · have HDq := Hd (show declD (lastOf 1 T) s2 = s2.bad (lastOf 1 T) 1 from if_pos ⟨HU.out.2.2, Or.inl (by rw [HU.out.1]; exact gf)⟩)
            have HC := Hd (dfault_any b T (s2) 1 w5 H5.out.1)
            go_wp2_with fail
            refine HC.out.mono ?_
            rintro e w6 ⟨rfl, hP, hg⟩
            have HG6 := Hd hg
            have hsz6 : w5.heap.size ≤ w6.heap.size := hg.size
            have H6 := Hd (Ai hP (Gt H5.out.2 hg))
            clear HC hP hg
            replace HBq := Hd (boxw_grown HBq.out HG6.out (by omega))
            have HZ := Hd (show 0 ≤ (tokD (lastOf 1 T) 3 (s2.bad (lastOf 1 T) 1)).1.1.x ∧ (tokD (lastOf 1 T) 3 (s2.bad (lastOf 1 T) 1)).1.1.x ≤ 24 from by rw [← HDq.out]; exact decl_small HX2.out)
            have HN := Hd (show declsD (lastOf 1 T) fu' (acc ++ [(y.1.t, (tokD (lastOf 1 T) 3 (s2.bad (lastOf 1 T) 1)).1.1.x)]) (tokD (lastOf 1 T) 3 (s2.bad (lastOf 1 T) 1)).2 = declsD (lastOf 1 T) (s.r.length + 1) [] s from HDq.out ▸ HN9.out.1)
            have HLT := Hd (show mS (tokD (lastOf 1 T) 3 (s2.bad (lastOf 1 T) 1)).2 < mS s' from HDq.out ▸ HN9.out.2)
            go_wp2_with fail
            have HT3 := Hd (dtok_any b T (s2.bad (lastOf 1 T) 1) 3 (by decide) w6 H6.out.1)
            generalize tokD (lastOf 1 T) 3 (s2.bad (lastOf 1 T) 1) = Q at *
            obtain ⟨z, s4⟩ := Q
            refine HT3.out.mono ?_
            rintro e w30 ⟨hv, hP, hg⟩
            unfold TokV at hv
            subst hv
            have hf2 := fun W => tok_field2 z.1.k (tx z.1.t) z.1.f z.1.x z.2 W
            have hf3 := fun W => num_field1 z.1.f z.1.x W
            have HG30 := Hd hg
            have hsz30 : w6.heap.size ≤ w30.heap.size := hg.size
            have H30 := Hd (Ai (show PAt w30 b T s4 from hP) (Gt H6.out.2 hg))
            clear HT3 hP hg
            skip
            have HBn := Hd (boxw_grown HBq.out HG30.out (by omega))
            have q0 : w30.cell? ⟨w2.heap.size, 0, none⟩ = some _ := HBn.out.1 0 _ rfl
            have q1 : w30.cell? ⟨w2.heap.size, 1, none⟩ = some _ := HBn.out.1 1 _ rfl
            have z1 : w30.frozen? ⟨w2.heap.size, 1, none⟩ = false := HBn.out.2 1
            have hz : 0 ≤ z.1.x ∧ z.1.x ≤ 24 := HZ.out
            have ez : IntKind.i64.wrap z.1.x = z.1.x := by rw [IntKind.wrap_i64]; omega
            have HEz := Hd hz
            clear hz
            go_upto_region 9 with fail
            have HBf := Hd (HBn.out.set 1 (show 1 < 2 by decide) (.int .i64 z.1.x))
            have HP9 := Hd (show PAt (w30.setCell ⟨w2.heap.size, 1, none⟩ (.int .i64 z.1.x)) b T s4 from H30.out.1.over (show b < w2.heap.size by omega) _)
            have HW9 := Hd (show w.grownBy (w30.setCell ⟨w2.heap.size, 1, none⟩ (.int .i64 z.1.x)) (some b) from grown_new H30.out.2 (show w.heap.size ≤ w2.heap.size by omega) _)
            have HOn := Hd (show (w30.setCell ⟨w2.heap.size, 1, none⟩ (.int .i64 z.1.x)).ownsRow w.heap.size 92 2 (.slice aa acc.length cc) acc.length (declV acc) from own_o (own_kept HO.out (Gt (Gt (Gt (Gt (Gt (Gt HG1.out HG2.out) HG3.out) HG4.out) HG5.out) HG6.out) HG30.out) (fun e => by have := HL.out b e; omega)) (set_grown _ w2.heap.size 1 _) (fun g e e2 => by have h1 := (HO.out.lt g e).2; have h2 : g = w2.heap.size := Oi e2; omega))
            have q0 : (w30.setCell ⟨w2.heap.size, 1, none⟩ (.int .i64 z.1.x)).cell? ⟨w2.heap.size, 0, none⟩ = some (.string (tx y.1.t)) := HBf.out.1 0 _ rfl
            have q1 : (w30.setCell ⟨w2.heap.size, 1, none⟩ (.int .i64 z.1.x)).cell? ⟨w2.heap.size, 1, none⟩ = some (.int .i64 z.1.x) := HBf.out.1 1 _ rfl
            have hszW : w30.heap.size ≤ (w30.setCell ⟨w2.heap.size, 1, none⟩ (.int .i64 z.1.x)).heap.size := by simp
            clear z1 hf2 hf3
            generalize (w30.setCell ⟨w2.heap.size, 1, none⟩ (.int .i64 z.1.x)) = w31 at *
            have one2 : ∀ u ∈ ([.string (tx y.1.t), .int .i64 z.1.x] : List Value), u.oneCell' = true := by intro u hu; simp at hu; rcases hu with rfl | rfl <;> rfl
            have hTn := HE.out.n
            have hmx := mS_le HE.out
            have hm1 := mS_alive HG.out
            have hn := HQ.out.2
            have hwz : w.heap.size ≤ w31.heap.size := HW9.out.size
            have m9 : acc.length + 1 ≤ maxLen := by unfold maxLen; omega
            have m8 : (acc.length + 1) * 24 ≤ 140737488355328 := by omega
            have hlA := declV_len acc
            go_wp2_with (at_builtin; refine wpList_append_lies _ rfl _ _ 24 rfl w.heap.size 92 i0 (.agg #[.string ⟨#[]⟩, .int .i64 0]) 2 24 Tryz.underlying24 hi0 hz0 hzs hzb rfl (by decide) (.slice aa acc.length cc) acc.length (declV acc) rfl (HOn.out.alloc _) ⟨w31.heap.size, 0, none⟩ 1 1 [.string (tx y.1.t), .int .i64 z.1.x] rfl rfl (World.news_of_block (heap_alloc_new _ _)) one2 (by decide) m9 m8 (by simp; omega) _ rfl ?_; intro g9 cap9 w9 o1 o2 o3 o4)
            have hxx := (Below.refl w31.heap.size w31).alloc Nr (.cells #[.string (tx y.1.t), .int .i64 z.1.x] 92)
            obtain ⟨q, hq, hg9⟩ := grown_some (b := b) o2 (fun g e => by have := HL.out g e; omega)
            have hP9 := (HP9.out.later hxx).past hg9 hq
            have hlt9 : mS s4 < mS s' := HLT.out
            have hfu := HQ.out.1
            refine ⟨⟨s4, acc ++ [(y.1.t, z.1.x)], _, fu', rfl, hP9, grown_past (Gt HW9.out (grown_of hxx)) o2 HL.out, by omega, HN.out, by simp; omega, ?_⟩, by rw [hP9.m, HS0.out.m]; exact hlt9⟩
            rw [declV_snoc]
            simpa using o1
          · have gf' : u.1.f = false := by simpa using gf
            clear gf
            by_cases gx : 24 < u.1.x
            · have HDq := Hd (show declD (lastOf 1 T) s2 = s2.bad (lastOf 1 T) 1 from if_pos ⟨HU.out.2.2, Or.inr (by rw [HU.out.1]; exact gx)⟩)
              have HC := Hd (dfault_any b T (s2) 1 w5 H5.out.1)
              go_wp2_with fail
              refine HC.out.mono ?_
              rintro e w6 ⟨rfl, hP, hg⟩
              have HG6 := Hd hg
              have hsz6 : w5.heap.size ≤ w6.heap.size := hg.size
              have H6 := Hd (Ai hP (Gt H5.out.2 hg))
              clear HC hP hg
              replace HBq := Hd (boxw_grown HBq.out HG6.out (by omega))
              have HZ := Hd (show 0 ≤ (tokD (lastOf 1 T) 3 (s2.bad (lastOf 1 T) 1)).1.1.x ∧ (tokD (lastOf 1 T) 3 (s2.bad (lastOf 1 T) 1)).1.1.x ≤ 24 from by rw [← HDq.out]; exact decl_small HX2.out)
              have HN := Hd (show declsD (lastOf 1 T) fu' (acc ++ [(y.1.t, (tokD (lastOf 1 T) 3 (s2.bad (lastOf 1 T) 1)).1.1.x)]) (tokD (lastOf 1 T) 3 (s2.bad (lastOf 1 T) 1)).2 = declsD (lastOf 1 T) (s.r.length + 1) [] s from HDq.out ▸ HN9.out.1)
              have HLT := Hd (show mS (tokD (lastOf 1 T) 3 (s2.bad (lastOf 1 T) 1)).2 < mS s' from HDq.out ▸ HN9.out.2)
              go_wp2_with fail
              have HT3 := Hd (dtok_any b T (s2.bad (lastOf 1 T) 1) 3 (by decide) w6 H6.out.1)
              generalize tokD (lastOf 1 T) 3 (s2.bad (lastOf 1 T) 1) = Q at *
              obtain ⟨z, s4⟩ := Q
              refine HT3.out.mono ?_
              rintro e w30 ⟨hv, hP, hg⟩
              unfold TokV at hv
              subst hv
              have hf2 := fun W => tok_field2 z.1.k (tx z.1.t) z.1.f z.1.x z.2 W
              have hf3 := fun W => num_field1 z.1.f z.1.x W
              have HG30 := Hd hg
              have hsz30 : w6.heap.size ≤ w30.heap.size := hg.size
              have H30 := Hd (Ai (show PAt w30 b T s4 from hP) (Gt H6.out.2 hg))
              clear HT3 hP hg
              skip
              have HBn := Hd (boxw_grown HBq.out HG30.out (by omega))
              have q0 : w30.cell? ⟨w2.heap.size, 0, none⟩ = some _ := HBn.out.1 0 _ rfl
              have q1 : w30.cell? ⟨w2.heap.size, 1, none⟩ = some _ := HBn.out.1 1 _ rfl
              have z1 : w30.frozen? ⟨w2.heap.size, 1, none⟩ = false := HBn.out.2 1
              have hz : 0 ≤ z.1.x ∧ z.1.x ≤ 24 := HZ.out
              have ez : IntKind.i64.wrap z.1.x = z.1.x := by rw [IntKind.wrap_i64]; omega
              have HEz := Hd hz
              clear hz
              go_upto_region 9 with fail
              have HBf := Hd (HBn.out.set 1 (show 1 < 2 by decide) (.int .i64 z.1.x))
              have HP9 := Hd (show PAt (w30.setCell ⟨w2.heap.size, 1, none⟩ (.int .i64 z.1.x)) b T s4 from H30.out.1.over (show b < w2.heap.size by omega) _)
              have HW9 := Hd (show w.grownBy (w30.setCell ⟨w2.heap.size, 1, none⟩ (.int .i64 z.1.x)) (some b) from grown_new H30.out.2 (show w.heap.size ≤ w2.heap.size by omega) _)
              have HOn := Hd (show (w30.setCell ⟨w2.heap.size, 1, none⟩ (.int .i64 z.1.x)).ownsRow w.heap.size 92 2 (.slice aa acc.length cc) acc.length (declV acc) from own_o (own_kept HO.out (Gt (Gt (Gt (Gt (Gt (Gt HG1.out HG2.out) HG3.out) HG4.out) HG5.out) HG6.out) HG30.out) (fun e => by have := HL.out b e; omega)) (set_grown _ w2.heap.size 1 _) (fun g e e2 => by have h1 := (HO.out.lt g e).2; have h2 : g = w2.heap.size := Oi e2; omega))
              have q0 : (w30.setCell ⟨w2.heap.size, 1, none⟩ (.int .i64 z.1.x)).cell? ⟨w2.heap.size, 0, none⟩ = some (.string (tx y.1.t)) := HBf.out.1 0 _ rfl
              have q1 : (w30.setCell ⟨w2.heap.size, 1, none⟩ (.int .i64 z.1.x)).cell? ⟨w2.heap.size, 1, none⟩ = some (.int .i64 z.1.x) := HBf.out.1 1 _ rfl
              have hszW : w30.heap.size ≤ (w30.setCell ⟨w2.heap.size, 1, none⟩ (.int .i64 z.1.x)).heap.size := by simp
              clear z1 hf2 hf3
              generalize (w30.setCell ⟨w2.heap.size, 1, none⟩ (.int .i64 z.1.x)) = w31 at *
              have one2 : ∀ u ∈ ([.string (tx y.1.t), .int .i64 z.1.x] : List Value), u.oneCell' = true := by intro u hu; simp at hu; rcases hu with rfl | rfl <;> rfl
              have hTn := HE.out.n
              have hmx := mS_le HE.out
              have hm1 := mS_alive HG.out
              have hn := HQ.out.2
              have hwz : w.heap.size ≤ w31.heap.size := HW9.out.size
              have m9 : acc.length + 1 ≤ maxLen := by unfold maxLen; omega
              have m8 : (acc.length + 1) * 24 ≤ 140737488355328 := by omega
              have hlA := declV_len acc
              go_wp2_with (at_builtin; refine wpList_append_lies _ rfl _ _ 24 rfl w.heap.size 92 i0 (.agg #[.string ⟨#[]⟩, .int .i64 0]) 2 24 Tryz.underlying24 hi0 hz0 hzs hzb rfl (by decide) (.slice aa acc.length cc) acc.length (declV acc) rfl (HOn.out.alloc _) ⟨w31.heap.size, 0, none⟩ 1 1 [.string (tx y.1.t), .int .i64 z.1.x] rfl rfl (World.news_of_block (heap_alloc_new _ _)) one2 (by decide) m9 m8 (by simp; omega) _ rfl ?_; intro g9 cap9 w9 o1 o2 o3 o4)
              have hxx := (Below.refl w31.heap.size w31).alloc Nr (.cells #[.string (tx y.1.t), .int .i64 z.1.x] 92)
              obtain ⟨q, hq, hg9⟩ := grown_some (b := b) o2 (fun g e => by have := HL.out g e; omega)
              have hP9 := (HP9.out.later hxx).past hg9 hq
              have hlt9 : mS s4 < mS s' := HLT.out
              have hfu := HQ.out.1
              refine ⟨⟨s4, acc ++ [(y.1.t, z.1.x)], _, fu', rfl, hP9, grown_past (Gt HW9.out (grown_of hxx)) o2 HL.out, by omega, HN.out, by simp; omega, ?_⟩, by rw [hP9.m, HS0.out.m]; exact hlt9⟩
              rw [declV_snoc]
              simpa using o1
            · have HDq := Hd (show declD (lastOf 1 T) s2 = s2 from if_neg (fun h => h.2.elim (fun h => by rw [HU.out.1, gf'] at h; exact absurd h (by decide)) (fun h => gx (by rw [HU.out.1] at h; exact h))))
              have HZ := Hd (show 0 ≤ (tokD (lastOf 1 T) 3 (s2)).1.1.x ∧ (tokD (lastOf 1 T) 3 (s2)).1.1.x ≤ 24 from by rw [← HDq.out]; exact decl_small HX2.out)
              have HN := Hd (show declsD (lastOf 1 T) fu' (acc ++ [(y.1.t, (tokD (lastOf 1 T) 3 (s2)).1.1.x)]) (tokD (lastOf 1 T) 3 (s2)).2 = declsD (lastOf 1 T) (s.r.length + 1) [] s from HDq.out ▸ HN9.out.1)
              have HLT := Hd (show mS (tokD (lastOf 1 T) 3 (s2)).2 < mS s' from HDq.out ▸ HN9.out.2)
              go_wp2_with fail
              have HT3 := Hd (dtok_any b T (s2) 3 (by decide) w5 H5.out.1)
              generalize tokD (lastOf 1 T) 3 (s2) = Q at *
              obtain ⟨z, s4⟩ := Q
              refine HT3.out.mono ?_
              rintro e w30 ⟨hv, hP, hg⟩
              unfold TokV at hv
              subst hv
              have hf2 := fun W => tok_field2 z.1.k (tx z.1.t) z.1.f z.1.x z.2 W
              have hf3 := fun W => num_field1 z.1.f z.1.x W
              have HG30 := Hd hg
              have hsz30 : w5.heap.size ≤ w30.heap.size := hg.size
              have H30 := Hd (Ai (show PAt w30 b T s4 from hP) (Gt H5.out.2 hg))
              clear HT3 hP hg
              skip
              have HBn := Hd (boxw_grown HBq.out HG30.out (by omega))
              have q0 : w30.cell? ⟨w2.heap.size, 0, none⟩ = some _ := HBn.out.1 0 _ rfl
              have q1 : w30.cell? ⟨w2.heap.size, 1, none⟩ = some _ := HBn.out.1 1 _ rfl
              have z1 : w30.frozen? ⟨w2.heap.size, 1, none⟩ = false := HBn.out.2 1
              have hz : 0 ≤ z.1.x ∧ z.1.x ≤ 24 := HZ.out
              have ez : IntKind.i64.wrap z.1.x = z.1.x := by rw [IntKind.wrap_i64]; omega
              have HEz := Hd hz
              clear hz
              go_upto_region 9 with fail
              have HBf := Hd (HBn.out.set 1 (show 1 < 2 by decide) (.int .i64 z.1.x))
              have HP9 := Hd (show PAt (w30.setCell ⟨w2.heap.size, 1, none⟩ (.int .i64 z.1.x)) b T s4 from H30.out.1.over (show b < w2.heap.size by omega) _)
              have HW9 := Hd (show w.grownBy (w30.setCell ⟨w2.heap.size, 1, none⟩ (.int .i64 z.1.x)) (some b) from grown_new H30.out.2 (show w.heap.size ≤ w2.heap.size by omega) _)
              have HOn := Hd (show (w30.setCell ⟨w2.heap.size, 1, none⟩ (.int .i64 z.1.x)).ownsRow w.heap.size 92 2 (.slice aa acc.length cc) acc.length (declV acc) from own_o (own_kept HO.out (Gt (Gt (Gt (Gt (Gt HG1.out HG2.out) HG3.out) HG4.out) HG5.out) HG30.out) (fun e => by have := HL.out b e; omega)) (set_grown _ w2.heap.size 1 _) (fun g e e2 => by have h1 := (HO.out.lt g e).2; have h2 : g = w2.heap.size := Oi e2; omega))
              have q0 : (w30.setCell ⟨w2.heap.size, 1, none⟩ (.int .i64 z.1.x)).cell? ⟨w2.heap.size, 0, none⟩ = some (.string (tx y.1.t)) := HBf.out.1 0 _ rfl
              have q1 : (w30.setCell ⟨w2.heap.size, 1, none⟩ (.int .i64 z.1.x)).cell? ⟨w2.heap.size, 1, none⟩ = some (.int .i64 z.1.x) := HBf.out.1 1 _ rfl
              have hszW : w30.heap.size ≤ (w30.setCell ⟨w2.heap.size, 1, none⟩ (.int .i64 z.1.x)).heap.size := by simp
              clear z1 hf2 hf3
              generalize (w30.setCell ⟨w2.heap.size, 1, none⟩ (.int .i64 z.1.x)) = w31 at *
              have one2 : ∀ u ∈ ([.string (tx y.1.t), .int .i64 z.1.x] : List Value), u.oneCell' = true := by intro u hu; simp at hu; rcases hu with rfl | rfl <;> rfl
              have hTn := HE.out.n
              have hmx := mS_le HE.out
              have hm1 := mS_alive HG.out
              have hn := HQ.out.2
              have hwz : w.heap.size ≤ w31.heap.size := HW9.out.size
              have m9 : acc.length + 1 ≤ maxLen := by unfold maxLen; omega
              have m8 : (acc.length + 1) * 24 ≤ 140737488355328 := by omega
              have hlA := declV_len acc
              go_wp2_with (at_builtin; refine wpList_append_lies _ rfl _ _ 24 rfl w.heap.size 92 i0 (.agg #[.string ⟨#[]⟩, .int .i64 0]) 2 24 Tryz.underlying24 hi0 hz0 hzs hzb rfl (by decide) (.slice aa acc.length cc) acc.length (declV acc) rfl (HOn.out.alloc _) ⟨w31.heap.size, 0, none⟩ 1 1 [.string (tx y.1.t), .int .i64 z.1.x] rfl rfl (World.news_of_block (heap_alloc_new _ _)) one2 (by decide) m9 m8 (by simp; omega) _ rfl ?_; intro g9 cap9 w9 o1 o2 o3 o4)
              have hxx := (Below.refl w31.heap.size w31).alloc Nr (.cells #[.string (tx y.1.t), .int .i64 z.1.x] 92)
              obtain ⟨q, hq, hg9⟩ := grown_some (b := b) o2 (fun g e => by have := HL.out g e; omega)
              have hP9 := (HP9.out.later hxx).past hg9 hq
              have hlt9 : mS s4 < mS s' := HLT.out
              have hfu := HQ.out.1
              refine ⟨⟨s4, acc ++ [(y.1.t, z.1.x)], _, fu', rfl, hP9, grown_past (Gt HW9.out (grown_of hxx)) o2 HL.out, by omega, HN.out, by simp; omega, ?_⟩, by rw [hP9.m, HS0.out.m]; exact hlt9⟩
              rw [declV_snoc]
              simpa using o1
        · have k3 : (kindL s2.r == 3) = false := by simp [g3]
          have HDq := Hd (show declD (lastOf 1 T) s2 = s2 from if_neg (fun h => g3 h.1))
          have HNk3 := Hd g3
          clear g3
          have HZ := Hd (show 0 ≤ (tokD (lastOf 1 T) 3 (s2)).1.1.x ∧ (tokD (lastOf 1 T) 3 (s2)).1.1.x ≤ 24 from by rw [show tokD (lastOf 1 T) 3 s2 = (tokO [], s2.bad (lastOf 1 T) 3) from if_neg (fun h => HNk3.out h.2)]; exact ⟨Int.le_refl _, (by decide : (0 : Int) ≤ 24)⟩)
          have HN := Hd (show declsD (lastOf 1 T) fu' (acc ++ [(y.1.t, (tokD (lastOf 1 T) 3 (s2)).1.1.x)]) (tokD (lastOf 1 T) 3 (s2)).2 = declsD (lastOf 1 T) (s.r.length + 1) [] s from HDq.out ▸ HN9.out.1)
          have HLT := Hd (show mS (tokD (lastOf 1 T) 3 (s2)).2 < mS s' from HDq.out ▸ HN9.out.2)
          go_wp2_with fail
          have HT3 := Hd (dtok_any b T (s2) 3 (by decide) w4 H4.out.1)
          generalize tokD (lastOf 1 T) 3 (s2) = Q at *
          obtain ⟨z, s4⟩ := Q
          refine HT3.out.mono ?_
          rintro e w30 ⟨hv, hP, hg⟩
          unfold TokV at hv
          subst hv
          have hf2 := fun W => tok_field2 z.1.k (tx z.1.t) z.1.f z.1.x z.2 W
          have hf3 := fun W => num_field1 z.1.f z.1.x W
          have HG30 := Hd hg
          have hsz30 : w4.heap.size ≤ w30.heap.size := hg.size
          have H30 := Hd (Ai (show PAt w30 b T s4 from hP) (Gt H4.out.2 hg))
          clear HT3 hP hg
          skip
          have HBn := Hd (boxw_grown HBq.out HG30.out (by omega))
          have q0 : w30.cell? ⟨w2.heap.size, 0, none⟩ = some _ := HBn.out.1 0 _ rfl
          have q1 : w30.cell? ⟨w2.heap.size, 1, none⟩ = some _ := HBn.out.1 1 _ rfl
          have z1 : w30.frozen? ⟨w2.heap.size, 1, none⟩ = false := HBn.out.2 1
          have hz : 0 ≤ z.1.x ∧ z.1.x ≤ 24 := HZ.out
          have ez : IntKind.i64.wrap z.1.x = z.1.x := by rw [IntKind.wrap_i64]; omega
          have HEz := Hd hz
          clear hz
          go_upto_region 9 with fail
          have HBf := Hd (HBn.out.set 1 (show 1 < 2 by decide) (.int .i64 z.1.x))
          have HP9 := Hd (show PAt (w30.setCell ⟨w2.heap.size, 1, none⟩ (.int .i64 z.1.x)) b T s4 from H30.out.1.over (show b < w2.heap.size by omega) _)
          have HW9 := Hd (show w.grownBy (w30.setCell ⟨w2.heap.size, 1, none⟩ (.int .i64 z.1.x)) (some b) from grown_new H30.out.2 (show w.heap.size ≤ w2.heap.size by omega) _)
          have HOn := Hd (show (w30.setCell ⟨w2.heap.size, 1, none⟩ (.int .i64 z.1.x)).ownsRow w.heap.size 92 2 (.slice aa acc.length cc) acc.length (declV acc) from own_o (own_kept HO.out (Gt (Gt (Gt (Gt HG1.out HG2.out) HG3.out) HG4.out) HG30.out) (fun e => by have := HL.out b e; omega)) (set_grown _ w2.heap.size 1 _) (fun g e e2 => by have h1 := (HO.out.lt g e).2; have h2 : g = w2.heap.size := Oi e2; omega))
          have q0 : (w30.setCell ⟨w2.heap.size, 1, none⟩ (.int .i64 z.1.x)).cell? ⟨w2.heap.size, 0, none⟩ = some (.string (tx y.1.t)) := HBf.out.1 0 _ rfl
          have q1 : (w30.setCell ⟨w2.heap.size, 1, none⟩ (.int .i64 z.1.x)).cell? ⟨w2.heap.size, 1, none⟩ = some (.int .i64 z.1.x) := HBf.out.1 1 _ rfl
          have hszW : w30.heap.size ≤ (w30.setCell ⟨w2.heap.size, 1, none⟩ (.int .i64 z.1.x)).heap.size := by simp
          clear z1 hf2 hf3
          generalize (w30.setCell ⟨w2.heap.size, 1, none⟩ (.int .i64 z.1.x)) = w31 at *
          have one2 : ∀ u ∈ ([.string (tx y.1.t), .int .i64 z.1.x] : List Value), u.oneCell' = true := by intro u hu; simp at hu; rcases hu with rfl | rfl <;> rfl
          have hTn := HE.out.n
          have hmx := mS_le HE.out
          have hm1 := mS_alive HG.out
          have hn := HQ.out.2
          have hwz : w.heap.size ≤ w31.heap.size := HW9.out.size
          have m9 : acc.length + 1 ≤ maxLen := by unfold maxLen; omega
          have m8 : (acc.length + 1) * 24 ≤ 140737488355328 := by omega
          have hlA := declV_len acc
          go_wp2_with (at_builtin; refine wpList_append_lies _ rfl _ _ 24 rfl w.heap.size 92 i0 (.agg #[.string ⟨#[]⟩, .int .i64 0]) 2 24 Tryz.underlying24 hi0 hz0 hzs hzb rfl (by decide) (.slice aa acc.length cc) acc.length (declV acc) rfl (HOn.out.alloc _) ⟨w31.heap.size, 0, none⟩ 1 1 [.string (tx y.1.t), .int .i64 z.1.x] rfl rfl (World.news_of_block (heap_alloc_new _ _)) one2 (by decide) m9 m8 (by simp; omega) _ rfl ?_; intro g9 cap9 w9 o1 o2 o3 o4)
          have hxx := (Below.refl w31.heap.size w31).alloc Nr (.cells #[.string (tx y.1.t), .int .i64 z.1.x] 92)
          obtain ⟨q, hq, hg9⟩ := grown_some (b := b) o2 (fun g e => by have := HL.out g e; omega)
          have hP9 := (HP9.out.later hxx).past hg9 hq
          have hlt9 : mS s4 < mS s' := HLT.out
          have hfu := HQ.out.1
          refine ⟨⟨s4, acc ++ [(y.1.t, z.1.x)], _, fu', rfl, hP9, grown_past (Gt HW9.out (grown_of hxx)) o2 HL.out, by omega, HN.out, by simp; omega, ?_⟩, by rw [hP9.m, HS0.out.m]; exact hlt9⟩
          rw [declV_snoc]
          simpa using o1
      · have kk : (kindL s'.r == 2) = false := by simp [gk]
        have hN := HN0.out
        rw [decls_no (fun h => gk h.2)] at hN
        have HN := Hd hN
        clear hN gk
        have HPu := Hd (show dataD (lastOf 1 T) s = ((declsD (lastOf 1 T) (s.r.length + 1) [] s).1, needD (lastOf 1 T) [59] (declsD (lastOf 1 T) (s.r.length + 1) [] s).2) from rfl)
        have HOe := Hd (own_kept HO.out HG1.out (fun e => by have := HL.out b e; omega))
        go_wp2_with fail
        refine (dneed_any b T s' [59] w1 H1.out.1).mono ?_
        rintro e w40 ⟨rfl, hP, hg⟩
        have H40 := Hd (Ai hP (Gt H1.out.2 hg))
        have HO40 := Hd (own_kept HOe.out hg (fun e => by have := HL.out b e; omega))
        clear hP hg
        go_wp2_with fail
        refine bodyPost_ret (v := .slice aa acc.length cc) (by simp [results, Tryz.results23, go_sem]) rfl ?_
        rw [HPu.out, ← HN.out]
        exact ⟨⟨_, rfl, HO40.out⟩, H40.out.1, H40.out.2⟩
    · have f0 : (s'.e == 0) = false := by simp [ge]
      rw [decls_no (fun h => ge h.1)] at hN
      have HN := Hd hN
      clear hN hP hg hown hfu hn hlow ge
      have HPu := Hd (show dataD (lastOf 1 T) s = ((declsD (lastOf 1 T) (s.r.length + 1) [] s).1, needD (lastOf 1 T) [59] (declsD (lastOf 1 T) (s.r.length + 1) [] s).2) from rfl)
      have HOe := Hd HO.out
      go_wp2_with fail
      refine (dneed_any b T s' [59] wr H0.out.1).mono ?_
      rintro e w40 ⟨rfl, hP, hg⟩
      have H40 := Hd (Ai hP (Gt H0.out.2 hg))
      have HO40 := Hd (own_kept HOe.out hg (fun e => by have := HL.out b e; omega))
      clear hP hg
      go_wp2_with fail
      refine bodyPost_ret (v := .slice aa acc.length cc) (by simp [results, Tryz.results23, go_sem]) rfl ?_
      rw [HPu.out, ← HN.out]
      exact ⟨⟨_, rfl, HO40.out⟩, H40.out.1, H40.out.2⟩
theorem module_data {ll : Int} {fu : Nat} {cs : List (Nm × Int)} {bs : List Bnd} {s : St} (he : s.e = 0) (hr : s.r ≠ []) (h : seesL [100, 97, 116, 97] s.r = true) : moduleD ll (fu + 1) cs bs s = moduleD ll fu (cs ++ (dataD ll s.next).1) bs (dataD ll s.next).2 := by
  conv => lhs; unfold moduleD
  rw [if_pos ⟨he, hr⟩, if_pos h]
theorem module_bind {ll : Int} {fu : Nat} {cs : List (Nm × Int)} {bs : List Bnd} {s : St} (he : s.e = 0) (hr : s.r ≠ []) (h : ¬ seesL [100, 97, 116, 97] s.r = true) : moduleD ll (fu + 1) cs bs s = moduleD ll fu cs (bs ++ [(bindD ll (exprD ll 200) s).1]) (needD ll [59] (bindD ll (exprD ll 200) s).2) := by
  conv => lhs; unfold moduleD
  rw [if_pos ⟨he, hr⟩, if_neg h]
theorem module_no {ll : Int} {fu : Nat} {cs : List (Nm × Int)} {bs : List Bnd} {s : St} (h : ¬ (s.e = 0 ∧ s.r ≠ [])) : moduleD ll fu cs bs s = ((cs, bs), s) := by
  cases fu with
  | zero => rfl
  | succ fu =>
    conv => lhs; unfold moduleD
    exact if_neg h
theorem rest_widen {w w' : World} {b b' : Nat} {v : Value} {rest : List Tok} (h : RestIn w b v rest) (hb : b ≤ b') (hk : ∀ g, g < b → w'.heap[g]? = w.heap[g]?) : RestIn w' b' v rest := by
  obtain ⟨a, c, e, h1, h2, h3⟩ := h
  refine ⟨a, c, e, h1, h2, ?_⟩
  rcases h3 with h3 | ⟨g, o, e2, hg, ht⟩
  · exact Or.inl h3
  · refine Or.inr ⟨g, o, e2, Nat.lt_of_lt_of_le hg hb, fun j hj => ?_⟩
    obtain ⟨t0, t1, t2, t3, t4⟩ := ht j hj
    have k := hk g hg
    exact ⟨(World.cell?_of_block (a := ⟨g, _, none⟩) k).trans t0, (World.cell?_of_block (a := ⟨g, _, none⟩) k).trans t1, (World.cell?_of_block (a := ⟨g, _, none⟩) k).trans t2, (World.cell?_of_block (a := ⟨g, _, none⟩) k).trans t3, (World.cell?_of_block (a := ⟨g, _, none⟩) k).trans t4⟩
theorem below_pq {n q : Nat} {a b c : World} (h : Below n a b) (hg : b.grownBy c (some q)) (hn : n ≤ b.heap.size) (hq : n ≤ q) : Below n a c :=
  ⟨hg.os.trans h.os, hg.tape.trans h.tape, hg.output.trans h.output, Nt h.size hg.size, fun k hk => (hg.block k (by omega) (by simp; omega)).trans (h.block k hk)⟩
theorem data_len (ll : Int) (s : St) : (dataD ll s).1.length + mS (dataD ll s).2 ≤ mS s := by
  have h1 := declsd_len ll (s.r.length + 1) [] s
  have h2 := need_mn ll [59] (declsD ll (s.r.length + 1) [] s).2
  show (declsD ll (s.r.length + 1) [] s).1.length + mS (needD ll [59] (declsD ll (s.r.length + 1) [] s).2) ≤ mS s
  simp only [List.length_nil] at h1
  omega
theorem nxt_lt {s : St} (he : s.e = 0) (hr : s.r ≠ []) : mS s.next < mS s := by
  have := List.length_pos_iff.2 hr
  unfold mS St.next
  simp only [he, if_true, List.length_tail]
  omega
def TokensV (lo : Nat) (o : Md × St) (e : Ending) (w' : World) : Prop :=
  ∃ vd vb, e = .returned (.tuple #[.agg #[vd, vb], .int .i64 o.2.e, .int .i64 (if o.2.e = 0 then 0 else o.2.ln)]) ∧
    (o.2.e ≠ 0 ∧ vd = .slice none 0 0 ∧ vb = .slice none 0 0 ∨ o.2.e = 0 ∧ ∃ B, lo ≤ B ∧ w'.ownsRow B 92 2 vd o.1.1.length (declV o.1.1) ∧ ∃ cs, w'.ownsRow B 59 10 vb o.1.2.length cs ∧ BndsAt w' (fun g => B ≤ g ∧ some g ≠ vb.ownBlock ∧ some g ≠ vd.ownBlock) o.1.2 cs)
theorem dtokens_any (T : List Tok) (hx : ∀ y, y ∈ T → 0 ≤ y.1.x) (hn : T.length ≤ 100000) (w : World) (a : Option Addr) (c : Nat) (hin : RestIn w w.heap.size (.slice a T.length c) T) : Calls Tryz.prog 12 #[.slice a T.length c] w (fun e w' => TokensV w.heap.size (moduleD (lastOf 1 T) (T.length + 1) [] [] ⟨T, 0, 0⟩) e w' ∧ Below w.heap.size w w') := by
  have HX := Hd hx
  have HIn := Hd hin
  have hx1 := (Below.refl w.heap.size w).alloc Nr (.cells #[.slice none 0 0, .slice none 0 0] 27)
  have hx2 := hx1.alloc (by simp) (.cells #[.slice a T.length c, .int .i64 0, .int .i64 0, .int .i64 0] 70)
  have hx3 := hx2.alloc (by simp; omega) (.cells #[.slice none 0 0, .slice none 0 0] 27)
  have hy3 := (Below.refl ((w.alloc (.cells #[.slice none 0 0, .slice none 0 0] 27)).alloc (.cells #[.slice a T.length c, .int .i64 0, .int .i64 0, .int .i64 0] 70)).heap.size ((w.alloc (.cells #[.slice none 0 0, .slice none 0 0] 27)).alloc (.cells #[.slice a T.length c, .int .i64 0, .int .i64 0, .int .i64 0] 70))).alloc Nr (.cells #[.slice none 0 0, .slice none 0 0] 27)
  have HPB := Hd (show BoxW (((w.alloc (.cells #[.slice none 0 0, .slice none 0 0] 27)).alloc (.cells #[.slice a T.length c, .int .i64 0, .int .i64 0, .int .i64 0] 70)).alloc (.cells #[.slice none 0 0, .slice none 0 0] 27)) (w.heap.size + 1) [.slice a T.length c, .int .i64 0, .int .i64 0, .int .i64 0] by have h := (BoxW.alloc (w.alloc (.cells #[.slice none 0 0, .slice none 0 0] 27)) #[.slice a T.length c, .int .i64 0, .int .i64 0, .int .i64 0] 70).below hy3; simpa using h)
  have HMB := Hd (show BoxW (((w.alloc (.cells #[.slice none 0 0, .slice none 0 0] 27)).alloc (.cells #[.slice a T.length c, .int .i64 0, .int .i64 0, .int .i64 0] 70)).alloc (.cells #[.slice none 0 0, .slice none 0 0] 27)) (w.heap.size + 1 + 1) [.slice none 0 0, .slice none 0 0] by have h := BoxW.alloc ((w.alloc (.cells #[.slice none 0 0, .slice none 0 0] 27)).alloc (.cells #[.slice a T.length c, .int .i64 0, .int .i64 0, .int .i64 0] 70)) #[.slice none 0 0, .slice none 0 0] 27; simpa using h)
  have HRB := Hd (show BoxW ((w.alloc (.cells #[.slice none 0 0, .slice none 0 0] 27)).alloc (.cells #[.slice a T.length c, .int .i64 0, .int .i64 0, .int .i64 0] 70)) w.heap.size [.slice none 0 0, .slice none 0 0] from ((BoxW.alloc w #[.slice none 0 0, .slice none 0 0] 27).below (Br.alloc Nr (.cells #[.slice a T.length c, .int .i64 0, .int .i64 0, .int .i64 0] 70))))
  have HGm := Hd (grown_of (b := w.heap.size + 1) hy3)
  have HZm := Hd (show ((w.alloc (.cells #[.slice none 0 0, .slice none 0 0] 27)).alloc (.cells #[.slice a T.length c, .int .i64 0, .int .i64 0, .int .i64 0] 70)).heap.size = w.heap.size + 2 by simp)
  have HP0 := Hd (show PAt (((w.alloc (.cells #[.slice none 0 0, .slice none 0 0] 27)).alloc (.cells #[.slice a T.length c, .int .i64 0, .int .i64 0, .int .i64 0] 70)).alloc (.cells #[.slice none 0 0, .slice none 0 0] 27)) (w.heap.size + 1) T ⟨T, 0, 0⟩ from ⟨⟨_, HPB.out.1 0 _ rfl, (rest_widen HIn.out (Nat.le_succ _) fun g hg => hx3.block g hg)⟩, ⟨0, Nat.zero_le _, rfl, HPB.out.1 1 _ rfl⟩, HPB.out.1 2 _ rfl, HPB.out.1 3 _ rfl, HPB.out.2, hn⟩)
  have HBl := Hd hx2
  have HZL := Hd (show (((w.alloc (.cells #[.slice none 0 0, .slice none 0 0] 27)).alloc (.cells #[.slice a T.length c, .int .i64 0, .int .i64 0, .int .i64 0] 70)).alloc (.cells #[.slice none 0 0, .slice none 0 0] 27)).heap.size = w.heap.size + 3 by simp)
  clear hx hin hx1 hx2 hx3 hy3 HPB
  go_enter Tryz.func12, Tryz.ntmps12
  go_wp2_with fail
  generalize (((w.alloc (.cells #[.slice none 0 0, .slice none 0 0] 27)).alloc (.cells #[.slice a T.length c, .int .i64 0, .int .i64 0, .int .i64 0] 70)).alloc (.cells #[.slice none 0 0, .slice none 0 0] 27)) = W at *
  generalize ((w.alloc (.cells #[.slice none 0 0, .slice none 0 0] 27)).alloc (.cells #[.slice a T.length c, .int .i64 0, .int .i64 0, .int .i64 0] 70)) = Wm at *
  have hszm1 := Nat.le_of_eq HZm.out
  have hszm2 := Nat.le_of_eq HZm.out.symm
  have hszL1 := Nat.le_of_eq HZL.out
  have hszL2 := Nat.le_of_eq HZL.out.symm
  generalize hb : w.heap.size + 1 = b at *
  generalize hm : b + 1 = mp at *
  generalize hRES : moduleD (lastOf 1 T) (T.length + 1) [] [] ⟨T, 0, 0⟩ = RES at *
  go_loopw [] (fun wr => ∃ (s' : St) (cs : List (Nm × Int)) (bs : List Bnd) (vd vb : Value) (cl : List Value) (fu : Nat), PAt wr b T s' ∧ Wm.grownBy wr (some b) ∧ mS s' ≤ fu ∧ moduleD (lastOf 1 T) fu cs bs s' = RES ∧ cs.length + bs.length + mS s' ≤ T.length + 1 ∧ BoxW wr mp [vd, vb] ∧ wr.ownsRow W.heap.size 92 2 vd cs.length (declV cs) ∧ wr.ownsRow W.heap.size 59 10 vb bs.length cl ∧ BndsAt wr (fun g => W.heap.size ≤ g ∧ some g ≠ vb.ownBlock ∧ some g ≠ vd.ownBlock) bs cl ∧ ∀ g, vd.ownBlock = some g → vb.ownBlock ≠ some g) (fun wr => stM T.length b wr)
  case atStart => exact ⟨⟨T, 0, 0⟩, [], [], _, _, [], _, HP0.out, HGm.out, by unfold mS; simp, hRES, by unfold mS; simp, HMB.out, World.ownsRow_nil _ _ _ _, World.ownsRow_nil _ _ _ _, .nil, fun g e => by cases e⟩
  case round =>
    obtain ⟨s', cs, bs, vd, vb, cl, fu, hP, hg, hfu, hN, hln, hB, hod, hob, hbt, hdis⟩ := hrel
    obtain ⟨ad, cd, rfl, hlowd⟩ := own_shape hod
    obtain ⟨ab, cb, rfl, hlowb⟩ := own_shape hob
    obtain ⟨i, ag, cg, c0, hcc, hmm, c1, hi, hr, c2, c3, ht⟩ := hP.view
    clear ht c0 hcc hmm
    have HS0 := Hd hP
    have HBq := Hd hB
    have HOd := Hd hod
    have HOb := Hd hob
    have HXb := Hd hbt
    have HDs := Hd hdis
    have HLd := Hd hlowd
    have HLb := Hd hlowb
    have H0 := Hd (Ai hP hg)
    have HQ := Hd (Ai hfu hln)
    have HM := Hd hN
    have q0 : wr.cell? ⟨mp, 0, none⟩ = some _ := HBq.out.1 0 _ rfl
    have q1 : wr.cell? ⟨mp, 1, none⟩ = some _ := HBq.out.1 1 _ rfl
    have hwr : W.heap.size ≤ wr.heap.size := by have := hB.lt; omega
    have hnn := hn
    have hrb : w.heap.size ≠ b := by omega
    have HRb := Hd (boxw_grown HRB.out hg hrb)
    have d0 : wr.cell? ⟨w.heap.size, 0, none⟩ = some _ := HRb.out.1 0 _ rfl
    have d1 : wr.cell? ⟨w.heap.size, 1, none⟩ = some _ := HRb.out.1 1 _ rfl
    have z0 := HRb.out.2 0
    have z1 := HRb.out.2 1
    clear hP hg hfu hN hln hB hod hob hbt hdis hlowd hlowb
    by_cases ge : s'.e = 0
    · have f0 : (s'.e == 0) = true := by simp [ge]
      by_cases gr : i < T.length
      · have f1 : decide ((i : Int) < (T.length : Int)) = true := by simp; omega
        have HGE := Hd ge
        have HT0 := Hd hn
        have HNE := Hd (show s'.r ≠ [] from fun e => by have h := hr.symm.trans e; have := List.drop_eq_nil_iff.1 h; omega)
        obtain ⟨fu', rfl⟩ : ∃ q, fu = q + 1 := ⟨fu - 1, by have := HQ.out.1; have := mS_alive ge; omega⟩
        have hc := dsees_any b T s' [100, 97, 116, 97] wr H0.out.1
        clear hr hi ge q0 q1 d0 d1 z0 z1
        by_cases gs : seesL [100, 97, 116, 97] s'.r = true
        · rw [gs] at hc
          have hN := HM.out
          rw [module_data HGE.out HNE.out gs] at hN
          have HN := Hd hN
          have HC := Hd hc
          clear hN hc gs
          go_wp2_with fail
          refine HC.out.mono ?_
          rintro e w1 ⟨rfl, hb1⟩
          have HG1 := Hd (grown_of (b := b) hb1)
          have hsz1 : wr.heap.size ≤ w1.heap.size := hb1.size
          have H1 := Hd (Ai (H0.out.1.later hb1) (Gt H0.out.2 HG1.out))
          clear HC hb1 c1 c2 c3
          obtain ⟨i2, hiT, hir, c1⟩ := H1.out.1.c1
          have y1 := H1.out.1.z 1
          have hTn := HT0.out
          have ej : IntKind.i64.wrap ((i2 : Int) + 1) = (i2 : Int) + 1 := by rw [IntKind.wrap_i64]; omega
          have hP9 := H1.out.1.next c1 HNE.out
          have hgs := set_grown w1 b 1 (.int .i64 ((i2 : Int) + 1))
          have H2 := Hd (Ai hP9 (Gt H1.out.2 hgs))
          have HG2 := Hd hgs
          have hsz2 : w1.heap.size ≤ (w1.setCell ⟨b, 1, none⟩ (.int .i64 ((i2 : Int) + 1))).heap.size := by simp
          clear hir hiT hP9 hgs
          go_wp2_with fail
          generalize (w1.setCell ⟨b, 1, none⟩ (.int .i64 ((i2 : Int) + 1))) = w2 at *
          clear c1 y1
          have hmb : mp ≠ b := by omega
          have HB2 := Hd (boxw_grown HBq.out (Gt HG1.out HG2.out) hmb)
          have HO2 := Hd (own_kept HOd.out (Gt HG1.out HG2.out) (fun e => by have := HLd.out b e; omega))
          have HCo := Hd (fun (W' : World) (hb : Below w2.heap.size w2 W') => ddata_any b T HX.out s'.next W' (H2.out.1.later hb))
          have q0 : w2.cell? ⟨mp, 0, none⟩ = some (.slice ad cs.length cd) := HB2.out.1 0 _ rfl
          have HLE := Hd (Ai (data_len (lastOf 1 T) s'.next) (nxt_lt HGE.out HNE.out))
          generalize hqi : dataD (lastOf 1 T) s'.next = Q at *
          obtain ⟨ds, s2⟩ := Q
          clear hqi
          have HNm := Hd (show cs.length + ds.length ≤ 100000 ∧ cs.length + ds.length + bs.length + mS s2 ≤ T.length + 1 by have h1 : ds.length + mS s2 ≤ mS s'.next := HLE.out.1; have := HLE.out.2; have := HQ.out.2; have := mS_alive HGE.out; have := mS_le HS0.out; omega)
          go_region_law
            (first
              | (refine step_onto_decl rfl _ _ rfl w5 W.heap.size cs.length (.slice ad cs.length cd) (declV cs) rfl HO5.out _ ds.length (declV ds) _ rfl H5.out.2.2.1 (declV_one ds) HNm.out.1 HS5.out ?_; intro ao cap w9 hon; have hBq := boxw_o HB5.out hon.2.1 (fun e => by have := HLd.out _ e.symm; omega); have qb0 := hBq.1 0 _ rfl; have zb0 := hBq.2 0; have H9 := Hd (Ai hon hBq); clear hon hBq)
              | (refine step_wanted rfl ?_; go_simp; go_at_call 23; refine (HCo.out _ (by first | exact Br | exact Br.drew | exact dbelow Br _)).mono ?_; rintro e w5 ⟨⟨vd5, rfl, hod5⟩, hP5, hg5'⟩; obtain ⟨a5, c5, rfl, hl5⟩ := own_shape hod5; have hg5 : w2.grownBy w5 (some b) := Gt (grown_of (by first | exact Br | exact Br.drew | exact dbelow Br _)) hg5'; have hB5 := boxw_grown HB2.out hg5 hmb; have q0 := hB5.1 0 _ rfl; have HB5 := Hd hB5; have HO5 := Hd (own_kept HO2.out hg5 (fun e => by have := HLd.out b e; omega)); have hs5 : w2.heap.size ≤ w5.heap.size := hg5.size; have HS5 := Hd (show W.heap.size ≤ w5.heap.size by omega); have H5 := Hd (Ai (show PAt w5 b T s2 from hP5) (Ai hg5 (Ai hod5 hl5))); clear hP5 hg5 hg5' hod5 hB5 hl5))
          all_goals
            go_wp2_with fail
            obtain ⟨⟨o1, o2, o3⟩, hB9⟩ := H9.out
            obtain ⟨hP5, hg5, hod5, hl5⟩ := H5.out
            have hs5 := hg5.size
            have hS5 := HS5.out
            have hlowd : ∀ g, (Value.slice ad cs.length cd).ownBlock = some g → W.heap.size ≤ g := HLd.out
            have hlowb : ∀ g, (Value.slice ab bs.length cb).ownBlock = some g → W.heap.size ≤ g := HLb.out
            have hltb : ∀ g, (Value.slice ab bs.length cb).ownBlock = some g → g < wr.heap.size := fun g e => (HOb.out.lt g e).2
            obtain ⟨q, hq, hg9⟩ := grown_some (b := b) o2 (fun g e => by have := hlowd g e; omega)
            have hs9 := hg9.size
            have hP9 := (hP5.past hg9 hq).over (p := mp) (i := 0) (by omega) (.slice ao (cs.length + ds.length) cap)
            have hG9 := grown_new (grown_past (Gt H2.out.2 hg5) o2 (fun g e => by have := hlowd g e; omega)) (p := mp) (i := 0) (by omega) (.slice ao (cs.length + ds.length) cap)
            have hvn : ∀ g, (Value.slice ao (cs.length + ds.length) cap).ownBlock = some g → W.heap.size ≤ g := fun g e => by
              rcases o3 with h | h
              · exact hlowd g (h.symm.trans e)
              · have h2 : w5.heap.size = g := Oi (h.symm.trans e)
                omega
            have hO9 := own_o o1 (set_grown w9 mp 0 (.slice ao (cs.length + ds.length) cap)) (fun g e e2 => by have h1 := hvn g e; have h2 : g = mp := Oi e2; omega)
            have hb9 := own_o (own_o (own_kept HOb.out (Gt (Gt HG1.out HG2.out) hg5) (fun e => by have := hlowb b e; omega)) o2 (fun g e e2 => HDs.out g e2.symm e)) (set_grown w9 mp 0 (.slice ao (cs.length + ds.length) cap)) (fun g e e2 => by have h1 := hlowb g e; have h2 : g = mp := Oi e2; omega)
            have hBf := hB9.set 0 (show 0 < 2 by decide) (.slice ao (cs.length + ds.length) cap)
            have hnw : ∀ g, g ≠ mp → (w9.setCell ⟨mp, 0, none⟩ (.slice ao (cs.length + ds.length) cap)).heap[g]? = w9.heap[g]? := fun g h => Below.heap_setCell _ _ _ _ (by simp only; omega)
            have hnv : ∀ g, g < w5.heap.size → some g ≠ (Value.slice ad cs.length cd).ownBlock → some g ≠ (Value.slice ao (cs.length + ds.length) cap).ownBlock := fun g h1 h2 e => by
              rcases o3 with h | h
              · exact h2 (e.trans h)
              · have h3 : g = w5.heap.size := Oi (e.trans h)
                omega
            have hfu := HQ.out.1
            have hl1 : ds.length + mS s2 ≤ mS s'.next := HLE.out.1
            have hl2 := HLE.out.2
            have hl3 := HNm.out.2
            refine ⟨⟨s2, cs ++ ds, bs, .slice ao (cs.length + ds.length) cap, .slice ab bs.length cb, cl, fu', hP9, hG9, by omega, HN.out, by simp; omega, hBf, by rw [List.length_append, declV_app]; exact hO9, hb9, ?_, ?_⟩, by rw [hP9.m, HS0.out.m]; show mS s2 < mS s'; omega⟩
            · refine HXb.out.move fun g hg lt => ⟨⟨hg.1, hg.2.1, hnv g (by omega) hg.2.2⟩, ?_⟩
              have hg1 : W.heap.size ≤ g := hg.1
              exact (hnw g (by omega)).trans ((o2.block g (by omega) hg.2.2).trans ((hg5.block g (by omega) (by simp; omega)).trans ((HG2.out.block g (by omega) (by simp; omega)).trans (HG1.out.block g lt (by simp; omega)))))
            · intro g e e2
              rcases o3 with h | h
              · exact HDs.out g (h.symm.trans e) e2
              · have h2 : w5.heap.size = g := Oi (h.symm.trans e)
                have := hltb g e2
                omega
        · have gs' : seesL [100, 97, 116, 97] s'.r = false := by simpa using gs
          rw [gs'] at hc
          have hN := HM.out
          rw [module_bind HGE.out HNE.out gs] at hN
          have HN0 := Hd hN
          have HC := Hd hc
          clear hN hc gs gs'
          go_wp2_with fail
          refine HC.out.mono ?_
          rintro e w1 ⟨rfl, hb1⟩
          have HG1 := Hd (grown_of (b := b) hb1)
          have hsz1 : wr.heap.size ≤ w1.heap.size := hb1.size
          have H1 := Hd (Ai (H0.out.1.later hb1) (Gt H0.out.2 HG1.out))
          clear HC hb1 c1 c2 c3
          have hmb : mp ≠ b := by omega
          have HB2 := Hd (boxw_grown HBq.out HG1.out hmb)
          have HO2 := Hd (own_kept HOb.out HG1.out (fun e => by have := HLb.out b e; omega))
          have HCo := Hd (fun (W' : World) (hb : Below w1.heap.size w1 W') => dbind_any b T 200 (dexpr_all b T 200 (by decide)) 0 (by decide) s' W' (H1.out.1.later hb))
          have q1 : w1.cell? ⟨mp, 1, none⟩ = some (.slice ab bs.length cb) := HB2.out.1 1 _ rfl
          have HLE := Hd (Nat.lt_of_lt_of_le (bind_lt (ll := (lastOf 1 T)) (ex := exprD (lastOf 1 T) 200) (expr_mn 200) (s := s') HGE.out) Nr)
          have HNm := Hd (show cs.length + (bs.length + 1) ≤ T.length + 1 ∧ bs.length + 1 ≤ 100000 by have := HQ.out.2; have := mS_alive HGE.out; have := mS_le HS0.out; have := List.length_pos_iff.2 HNE.out; omega)
          generalize hqi : bindD (lastOf 1 T) (exprD (lastOf 1 T) 200) s' = Q at *
          obtain ⟨a5, s2⟩ := Q
          clear hqi
          have hnm : bs.length + 1 ≤ 100000 := HNm.out.2
          go_wp2_with fail
          go_region_law
            (first
              | (refine step_onto_bind rfl _ _ rfl (w5.alloc (.cells #[.string (tx a5.1), .slice ap0 np0 cp0, .int .i64 k1, .string nm1, .bool f5, .int .u64 u5, .slice ap1 np1 cp1, .slice ak1 nk1 ck1, .slice ab1 nb1 cb1, .slice aa1 na1 ca1] 59)) W.heap.size bs.length (.slice ab bs.length cb) cl rfl HO6.out w5.heap.size 1 [.string (tx a5.1), .slice ap0 np0 cp0, .int .i64 k1, .string nm1, .bool f5, .int .u64 u5, .slice ap1 np1 cp1, .slice ak1 nk1 ck1, .slice ab1 nb1 cb1, .slice aa1 na1 ca1] _ rfl (own_built (cs := #[.string (tx a5.1), .slice ap0 np0 cp0, .int .i64 k1, .string nm1, .bool f5, .int .u64 u5, .slice ap1 np1 cp1, .slice ak1 nk1 ck1, .slice ab1 nb1 cb1, .slice aa1 na1 ca1]) (heap_alloc_new _ _) Nr rfl (by decide)) HO1.out hnm HS6.out ?_; intro ao cap w9 hon; have hBq := boxw_o HB6.out hon.2.1 (fun e => by have := HLb.out _ e.symm; omega); have qb1 := hBq.1 1 _ rfl; have zb1 := hBq.2 1; have H9 := Hd (Ai hon hBq); clear hon hBq)
              | (refine step_wanted rfl ?_; go_simp; go_at_call 24; refine (HCo.out _ (by first | exact Br | exact Br.drew | exact dbelow Br _)).mono ?_; rintro e w5 ⟨⟨vp0, k1, nm1, f5, u5, vq, vk, vb, va, rfl, hrow, hat⟩, hP5, hg5'⟩; obtain ⟨ap0, np0, cp0, rfl⟩ := hrow.slice; obtain ⟨⟨ap1, np1, cp1, rfl⟩, ⟨ak1, nk1, ck1, rfl⟩, ⟨ab1, nb1, cb1, rfl⟩, ⟨aa1, na1, ca1, rfl⟩⟩ := hat.slices; have hg5 : w1.grownBy w5 (some b) := Gt (grown_of (by first | exact Br | exact Br.drew | exact dbelow Br _)) hg5'; have hB5 := boxw_grown HB2.out hg5 hmb; have q1 := hB5.1 1 _ rfl; have hy5 := (Below.refl w5.heap.size w5).alloc Nr (.cells #[.string (tx a5.1), .slice ap0 np0 cp0, .int .i64 k1, .string nm1, .bool f5, .int .u64 u5, .slice ap1 np1 cp1, .slice ak1 nk1 ck1, .slice ab1 nb1 cb1, .slice aa1 na1 ca1] 59); have qc1 := (hB5.below hy5).1 1 _ rfl; have HB6 := Hd (hB5.below hy5); have HO6 := Hd (own_below (own_kept HO2.out hg5 (fun e => by have := HLb.out b e; omega)) hy5); have HO1 := Hd (show ∀ zz ∈ ([.string (tx a5.1), .slice ap0 np0 cp0, .int .i64 k1, .string nm1, .bool f5, .int .u64 u5, .slice ap1 np1 cp1, .slice ak1 nk1 ck1, .slice ab1 nb1 cb1, .slice aa1 na1 ca1] : List Value), zz.oneCell' = true by intro z hz; simp at hz; rcases hz with rfl | rfl | rfl | rfl | rfl | rfl | rfl | rfl | rfl | rfl <;> rfl); have hs5 : w1.heap.size ≤ w5.heap.size := hg5.size; have HS6 := Hd (show W.heap.size ≤ (w5.alloc (.cells #[.string (tx a5.1), .slice ap0 np0 cp0, .int .i64 k1, .string nm1, .bool f5, .int .u64 u5, .slice ap1 np1 cp1, .slice ak1 nk1 ck1, .slice ab1 nb1 cb1, .slice aa1 na1 ca1] 59)).heap.size by have := hy5.size; omega); have H6 := Hd (Ai (show PAt w5 b T s2 from hP5) (Ai hg5 (Ai (show RowAt w5 (fun g => w1.heap.size ≤ g) 9 1 (.slice ap0 np0 cp0) a5.2.1.length (namesV a5.2.1) from hrow) (Ai (show ExAt w5 (fun g => w1.heap.size ≤ g) a5.2.2 _ from hat) hy5)))); clear hP5 hg5 hg5' hrow hat hy5 hB5))
          all_goals
            go_wp2_with fail
            obtain ⟨⟨o1, o2, o3⟩, hB9⟩ := H9.out
            obtain ⟨hP5, hg5, hrow, hat, hy5⟩ := H6.out
            have hs5 := hg5.size
            have hs6 := hy5.size
            have hlowd : ∀ g, (Value.slice ad cs.length cd).ownBlock = some g → W.heap.size ≤ g := HLd.out
            have hltd : ∀ g, (Value.slice ad cs.length cd).ownBlock = some g → g < wr.heap.size := fun g e => (HOd.out.lt g e).2
            have hlow9 : ∀ g, (Value.slice ab bs.length cb).ownBlock = some g → W.heap.size ≤ g := HLb.out
            have hlt9 : ∀ g, (Value.slice ab bs.length cb).ownBlock = some g → g < wr.heap.size := fun g e => (HOb.out.lt g e).2
            obtain ⟨q, hq, hg9⟩ := grown_some (b := b) o2 (fun g e => by have := hlow9 g e; omega)
            have hs9 := hg9.size
            have hP9 := ((hP5.later hy5).past hg9 hq).over (p := mp) (i := 1) (by omega) (.slice ao (bs.length + 1) cap)
            have hG9 := grown_new (grown_past (Gt H1.out.2 (Gt hg5 (grown_of hy5))) o2 (fun g e => by have := hlow9 g e; omega)) (p := mp) (i := 1) (by omega) (.slice ao (bs.length + 1) cap)
            have hvn : ∀ g, (Value.slice ao (bs.length + 1) cap).ownBlock = some g → (Value.slice ab bs.length cb).ownBlock = some g ∨ g = (w5.alloc (.cells #[.string (tx a5.1), .slice ap0 np0 cp0, .int .i64 k1, .string nm1, .bool f5, .int .u64 u5, .slice ap1 np1 cp1, .slice ak1 nk1 ck1, .slice ab1 nb1 cb1, .slice aa1 na1 ca1] 59)).heap.size := fun g e => by
              rcases o3 with h | h
              · exact Or.inl (h.symm.trans e)
              · exact Or.inr (Oi (h.symm.trans e)).symm
            have hvl : ∀ g, (Value.slice ao (bs.length + 1) cap).ownBlock = some g → W.heap.size ≤ g := fun g e => by
              rcases hvn g e with h | h
              · exact hlow9 g h
              · omega
            have hO9 := own_o o1 (set_grown w9 mp 1 (.slice ao (bs.length + 1) cap)) (fun g e e2 => by have h1 := hvl g e; have h2 : g = mp := Oi e2; omega)
            have hd9 := own_o (own_o (own_below (own_kept HOd.out (Gt HG1.out hg5) (fun e => by have := hlowd b e; omega)) hy5) o2 (fun g e e2 => HDs.out g e e2.symm)) (set_grown w9 mp 1 (.slice ao (bs.length + 1) cap)) (fun g e e2 => by have h1 := hlowd g e; have h2 : g = mp := Oi e2; omega)
            have hBf := hB9.set 1 (show 1 < 2 by decide) (.slice ao (bs.length + 1) cap)
            have hnw : ∀ g, g ≠ mp → (w9.setCell ⟨mp, 1, none⟩ (.slice ao (bs.length + 1) cap)).heap[g]? = w9.heap[g]? := fun g h => Below.heap_setCell _ _ _ _ (by simp only; omega)
            have hnv : ∀ g, g < w5.heap.size → some g ≠ (Value.slice ab bs.length cb).ownBlock → some g ≠ (Value.slice ao (bs.length + 1) cap).ownBlock := fun g h1 h2 e => by
              rcases hvn g e.symm with h | h
              · exact h2 h.symm
              · omega
            have hfar : ∀ g, w1.heap.size ≤ g → g < w5.heap.size → (W.heap.size ≤ g ∧ some g ≠ (Value.slice ao (bs.length + 1) cap).ownBlock ∧ some g ≠ (Value.slice ad cs.length cd).ownBlock) ∧ (w9.setCell ⟨mp, 1, none⟩ (.slice ao (bs.length + 1) cap)).heap[g]? = w5.heap[g]? := fun g h1 h2 => by
              have hne : some g ≠ (Value.slice ab bs.length cb).ownBlock := fun e => by have := hlt9 g e.symm; omega
              exact ⟨⟨by omega, hnv g h2 hne, fun e => by have := hltd g e.symm; omega⟩, (hnw g (by omega)).trans ((o2.block g (by omega) hne).trans (hy5.block g h2))⟩
            have hX9 : BndsAt (w9.setCell ⟨mp, 1, none⟩ (.slice ao (bs.length + 1) cap)) (fun g => W.heap.size ≤ g ∧ some g ≠ (Value.slice ao (bs.length + 1) cap).ownBlock ∧ some g ≠ (Value.slice ad cs.length cd).ownBlock) (bs ++ [a5]) (cl ++ [.string (tx a5.1), .slice ap0 np0 cp0, .int .i64 k1, .string nm1, .bool f5, .int .u64 u5, .slice ap1 np1 cp1, .slice ak1 nk1 ck1, .slice ab1 nb1 cb1, .slice aa1 na1 ca1]) := by
              refine BndsAt.snoc (HXb.out.move fun g hg lt => ?_) (hrow.move fun g hg lt => hfar g hg lt) (hat.move fun g hg lt => hfar g hg lt)
              have hg1 : W.heap.size ≤ g := hg.1
              exact ⟨⟨hg1, hnv g (by omega) hg.2.1, hg.2.2⟩, (hnw g (by omega)).trans ((o2.block g (by omega) hg.2.1).trans ((hy5.block g (by omega)).trans ((hg5.block g (by omega) (by simp; omega)).trans (HG1.out.block g lt (by simp; omega)))))⟩
            have hd : ∀ g, (Value.slice ad cs.length cd).ownBlock = some g → (Value.slice ao (bs.length + 1) cap).ownBlock ≠ some g := fun g e e2 => by
              rcases hvn g e2 with h | h
              · exact HDs.out g e h
              · have := hltd g e
                omega
            have HND := Hd (dneed_any b T s2 [59] (w9.setCell ⟨mp, 1, none⟩ (.slice ao (bs.length + 1) cap)) hP9)
            have HALL := Hd (Ai hG9 (Ai hO9 (Ai hd9 (Ai hBf (Ai hX9 hd)))))
            have hlo : ∀ g, (Value.slice ao (bs.length + 1) cap).ownBlock = some g → W.heap.size ≤ g := hvl
            clear hP9 hG9 hO9 hd9 hBf hX9 hd hfar hnv hnw hvn hvl
            generalize (w9.setCell ⟨mp, 1, none⟩ (.slice ao (bs.length + 1) cap)) = W10 at *
            refine HND.out.mono ?_
            rintro e w11 ⟨rfl, hP11, hg11⟩
            have H11 := Hd (Ai hP11 hg11)
            clear hP11 hg11
            go_wp2_with fail
            obtain ⟨hG9, hO9, hd9, hBf, hX9, hd⟩ := HALL.out
            obtain ⟨hP11, hg11⟩ := H11.out
            have hfu := HQ.out.1
            have hl1 : mS s2 < mS s' := HLE.out
            have hl2 := need_mn (lastOf 1 T) [59] s2
            have hl3 := HQ.out.2
            refine ⟨⟨needD (lastOf 1 T) [59] s2, cs, bs ++ [a5], .slice ad cs.length cd, (.slice ao (bs.length + 1) cap), cl ++ [.string (tx a5.1), .slice ap0 np0 cp0, .int .i64 k1, .string nm1, .bool f5, .int .u64 u5, .slice ap1 np1 cp1, .slice ak1 nk1 ck1, .slice ab1 nb1 cb1, .slice aa1 na1 ca1], fu', hP11, Gt hG9 hg11, by omega, HN0.out, by simp; omega, boxw_grown hBf hg11 hmb, own_kept hd9 hg11 (fun e => by have := hlowd b e; omega), by simpa using own_kept hO9 hg11 (fun e => by have := hlo b e; omega), ?_, hd⟩, by rw [hP11.m, HS0.out.m]; show mS (needD (lastOf 1 T) [59] s2) < mS s'; omega⟩
            exact hX9.move fun g hg lt => ⟨hg, hg11.block g lt (by have := hg.1; simp; omega)⟩
      · have f1 : decide ((i : Int) < (T.length : Int)) = false := by simp; omega
        have hN := HM.out
        rw [module_no (fun h => h.2 (hr.trans (List.drop_eq_nil_of_le (by omega))))] at hN
        have HN := Hd hN
        have f2 : (s'.e != 0) = false := by simp [ge]
        have HGE := Hd ge
        clear hN hr hi ge
        go_wp2_with fail
        have v0 : ((wr.setCell ⟨w.heap.size, 0, none⟩ (.slice ad cs.length cd)).setCell ⟨w.heap.size, 1, none⟩ (.slice ab bs.length cb)).cell? ⟨w.heap.size, 0, none⟩ = some (.slice ad cs.length cd) := (at_oth _ _ _ _ _ (by decide)).trans (at_sam _ d0)
        have v1 : ((wr.setCell ⟨w.heap.size, 0, none⟩ (.slice ad cs.length cd)).setCell ⟨w.heap.size, 1, none⟩ (.slice ab bs.length cb)).cell? ⟨w.heap.size, 1, none⟩ = some (.slice ab bs.length cb) := at_sam _ ((at_oth _ _ _ _ _ (by decide)).trans d1)
        refine bodyPost_ret (v := .tuple #[.agg #[.slice ad cs.length cd, .slice ab bs.length cb], .int .i64 0, .int .i64 0]) (by simp [results, Tryz.results12, go_sem, v0, v1]) rfl ?_
        have e0 : s'.e = 0 := HGE.out
        have hrs : w.heap.size < W.heap.size := by omega
        have hfr : ∀ g, W.heap.size ≤ g → ((wr.setCell ⟨w.heap.size, 0, none⟩ (.slice ad cs.length cd)).setCell ⟨w.heap.size, 1, none⟩ (.slice ab bs.length cb)).heap[g]? = wr.heap[g]? := fun g h => (Below.heap_setCell _ _ _ _ (by simp only; omega)).trans (Below.heap_setCell _ _ _ _ (by simp only; omega))
        rw [hRES, ← HN.out]
        refine ⟨⟨.slice ad cs.length cd, .slice ab bs.length cb, by simp [e0], Or.inr ⟨e0, W.heap.size, by omega, ?_, cl, ?_, ?_⟩⟩, ?_⟩
        · exact own_o (own_o HOd.out (set_grown ..) (fun g e e2 => by have := HLd.out g e; have := Oi e2; omega)) (set_grown ..) (fun g e e2 => by have := HLd.out g e; have := Oi e2; omega)
        · exact own_o (own_o HOb.out (set_grown ..) (fun g e e2 => by have := HLb.out g e; have := Oi e2; omega)) (set_grown ..) (fun g e e2 => by have := HLb.out g e; have := Oi e2; omega)
        · exact HXb.out.move fun g hg lt => ⟨hg, hfr g hg.1⟩
        · exact below_pq (below_pq (below_pq HBl.out H0.out.2 (by omega) (by omega)) (set_grown ..) (by omega) Nr) (set_grown ..) (by simp; omega) Nr
    · have f0 : (s'.e == 0) = false := by simp [ge]
      have f2 : (s'.e != 0) = true := by simp [ge]
      have hN := HM.out
      rw [module_no (fun h => ge h.1)] at hN
      have HN := Hd hN
      have HGE := Hd ge
      clear hN hr hi ge
      go_wp2_with fail
      go_region_held3 (fun w' => w'.cell? ⟨b, 2, none⟩ = some (.int .i64 s'.e) ∧ w'.cell? ⟨b, 3, none⟩ = some (.int .i64 s'.ln)) (first | go_keep | exact ⟨(at_far _ _ _ _ _ _ hrb.symm).trans ((at_far _ _ _ _ _ _ hrb.symm).trans c2), (at_far _ _ _ _ _ _ hrb.symm).trans ((at_far _ _ _ _ _ _ hrb.symm).trans c3)⟩) (fail)
      rename_i hHeld
      clear hHeld
      have v0 : ((wr.setCell ⟨w.heap.size, 0, none⟩ (.slice none 0 0)).setCell ⟨w.heap.size, 1, none⟩ (.slice none 0 0)).drew.cell? ⟨w.heap.size, 0, none⟩ = some (.slice none 0 0) := (at_oth _ _ _ _ _ (by decide)).trans (at_sam _ d0)
      have v1 : ((wr.setCell ⟨w.heap.size, 0, none⟩ (.slice none 0 0)).setCell ⟨w.heap.size, 1, none⟩ (.slice none 0 0)).drew.cell? ⟨w.heap.size, 1, none⟩ = some (.slice none 0 0) := at_sam _ ((at_oth _ _ _ _ _ (by decide)).trans d1)
      have HBf := Hd (show Below w.heap.size w ((wr.setCell ⟨w.heap.size, 0, none⟩ (.slice none 0 0)).setCell ⟨w.heap.size, 1, none⟩ (.slice none 0 0)).drew from (below_pq (below_pq (below_pq HBl.out H0.out.2 (by omega) (by omega)) (set_grown ..) (by omega) Nr) (set_grown ..) (by simp; omega) Nr).drew)
      go_wp2_with fail
      refine bodyPost_ret (v := .tuple #[.agg #[.slice none 0 0, .slice none 0 0], .int .i64 s'.e, .int .i64 s'.ln]) (by simp [results, Tryz.results12, go_sem, v0, v1]) rfl ?_
      have e0 : s'.e ≠ 0 := HGE.out
      rw [hRES, ← HN.out]
      exact ⟨⟨.slice none 0 0, .slice none 0 0, by simp [e0], Or.inl ⟨e0, rfl, rfl⟩⟩, HBf.out⟩
def depsOf (ops : Array Oper) : List (List Nat) := ops.toList.map fun o => (o.after.toList.filter (Region.binds .any)).map (·.on)
def lsOf (base : List Nat) (k : Nat) (idx : Nat → Nat) (n m : Nat) : Bool := base.contains m || (List.range k).any fun j => idx j == m && n.testBit j
def LsOf (base : List Nat) (k : Nat) (idx : Nat → Nat) (len n : Nat) : Array Bool := ((List.range len).map (lsOf base k idx n)).toArray
def chkSome (D : List (List Nat)) (base : List Nat) (k : Nat) (idx zeros : Nat → Nat) (full : Nat) : Bool :=
  D.all (fun d => d.all fun e => decide (e < D.length)) && (List.range k).all (fun j => decide (idx j < D.length)) &&
  (List.range full).all fun n =>
    ((List.range k).any fun j => !lsOf base k idx n (idx j) && ((D[idx j]?).getD []).all (lsOf base k idx n)) &&
    (List.range D.length).all fun i => lsOf base k idx n i || !((D[i]?).getD []).all (lsOf base k idx n) || (List.range k).any fun j => idx j == i && !n.testBit j && decide (n + 2 ^ j ≤ full) && zeros n == zeros (n + 2 ^ j) + 1
def KX (w : World) (m : Nat) (es : List (Sh × Value)) : Prop := w.heap[m]? = some (.map (entries es).toArray es.length)
theorem KX.lt {w : World} {m : Nat} {es : List (Sh × Value)} (h : KX w m es) : m < w.heap.size := by
  rcases Nat.lt_or_ge m w.heap.size with h' | h'
  · exact h'
  · unfold KX at h; rw [Array.getElem?_eq_none h'] at h; cases h
def zeros (k n : Nat) : Nat := ((List.range k).filter fun j => !n.testBit j).length
def IDX8 (j : Nat) : Nat := 4 * j + 5
def BASE8 : List Nat := [0, 1, 2, 3, 4, 6, 7, 8, 10, 11, 12, 14, 15, 16, 18, 19, 20, 22, 23, 24, 26, 27, 28, 30, 31, 32]
def D8 : List (List Nat) := [[], [], [], [], [3], [1, 2, 4], [], [], [7], [1, 6, 8], [], [], [11], [1, 10, 12], [], [], [15], [1, 14, 16], [], [], [19], [1, 18, 20], [], [], [23], [1, 22, 24], [], [], [27], [1, 26, 28], [], [], [31], [1, 30, 32], [1, 2, 3, 4, 5, 6, 7, 8, 9, 10, 11, 12, 13, 14, 15, 16, 17, 18, 19, 20, 21, 22, 23, 24, 25, 26, 27, 28, 29, 30, 31, 32, 33], [0, 0, 1, 2, 3, 4, 5, 6, 7, 8, 9, 10, 11, 12, 13, 14, 15, 16, 17, 18, 19, 20, 21, 22, 23, 24, 25, 26, 27, 28, 29, 30, 31, 32, 33, 34], [35, 0, 1, 2, 3, 4, 5, 6, 7, 8, 9, 10, 11, 12, 13, 14, 15, 16, 17, 18, 19, 20, 21, 22, 23, 24, 25, 26, 27, 28, 29, 30, 31, 32, 33, 34], [36, 34, 0, 1, 2, 3, 4, 5, 6, 7, 8, 9, 10, 11, 12, 13, 14, 15, 16, 17, 18, 19, 20, 21, 22, 23, 24, 25, 26, 27, 28, 29, 30, 31, 32, 33, 34]]
def L8 (n : Nat) : Array Bool := LsOf BASE8 8 IDX8 D8.length n
def IDX9 : Nat → Nat
  | 0 => 1 | 1 => 4 | 2 => 5 | 3 => 8 | 4 => 9 | 5 => 13 | 6 => 16 | 7 => 17 | 8 => 21 | n => n + 100
def BASE9 : List Nat := [0, 2, 3, 6, 7, 10, 11, 12, 14, 15, 18, 19, 20]
def D9 : List (List Nat) := [[], [], [], [], [3], [1, 2, 4], [], [], [7, 4], [1, 6, 8], [], [], [11], [1, 10, 12], [], [], [15, 8], [1, 14, 16], [], [], [19], [1, 18, 20], [1, 2, 3, 4, 5, 6, 7, 8, 9, 10, 11, 12, 13, 14, 15, 16, 17, 18, 19, 20, 21], [0, 0, 1, 2, 3, 4, 5, 6, 7, 8, 9, 10, 11, 12, 13, 14, 15, 16, 17, 18, 19, 20, 21, 22], [23, 0, 1, 2, 3, 4, 5, 6, 7, 8, 9, 10, 11, 12, 13, 14, 15, 16, 17, 18, 19, 20, 21, 22], [24, 22, 16, 0, 1, 2, 3, 4, 5, 6, 7, 8, 9, 10, 11, 12, 13, 14, 15, 16, 17, 18, 19, 20, 21, 22]]
def L9 (n : Nat) : Array Bool := LsOf BASE9 9 IDX9 D9.length n
def F4 (a : Act) (d0 d1 d2 d3 : Nat) (v0 v1 v2 v3 : Value) : Act := (((a.put (some d0) v0).put (some d1) v1).put (some d2) v2).put (some d3) v3
end Go.Proofs.YtdjcdecbmeickaaGreatDoor
namespace Go.Proofs.YtdjcdecbmeickaaGreatDoor
set_option maxHeartbeats 64000000
set_option maxRecDepth 100000
open Go.RowKit
open Go.Lib (NumEnd parseIntB itoa)
def printL (f : Bool) (x : Int) : List UInt8 := if f = true then fltL x.toNat else itoa (wrap64 x)
theorem U_range (v : Int) : 0 ≤ U v ∧ U v < 18446744073709551616 := by rw [U_eq]; omega
theorem back (l : List UInt8) (b : Bool) (y : Int) (h : parseL l = (b, y, 0)) : 0 ≤ y ∧ y < 18446744073709551616 ∧ printL b y = l := by
  unfold parseL at h
  split at h
  · rename_i hp
    split at h
    · rename_i hx
      simp only [Prod.mk.injEq] at h
      obtain ⟨rfl, rfl, _⟩ := h
      obtain ⟨e1, e2⟩ := hex_back (l.drop 2) hx.1 hx.2
      refine ⟨by omega, by omega, ?_⟩
      show fltL ((hexN 0 (l.drop 2) : Nat) : Int).toNat = l
      rw [Int.toNat_natCast, e2]
      have hp' : List.isPrefixOf [48, 102] l = true := hp
      obtain ⟨t, ht⟩ := List.isPrefixOf_iff_prefix.1 hp'
      rw [← ht]; rfl
    · simp at h
  · split at h
    · rename_i hf
      cases hv : parseIntB 64 l with
      | ok v =>
        rw [hv] at h
        simp only [Prod.mk.injEq] at h
        obtain ⟨rfl, rfl, _⟩ := h
        obtain ⟨b1, b2⟩ := Lib.parseIntB_bounds hv
        refine ⟨(U_range v).1, (U_range v).2, ?_⟩
        show itoa (wrap64 (U v)) = l
        rw [wrap64_U v ⟨by simpa using b1, by have := b2; simp at this; omega⟩]
        exact int_back l v hf hv
      | range => rw [hv] at h; simp at h
      | _ => rw [hv] at h; simp at h
    · simp at h
end Go.Proofs.YtdjcdecbmeickaaGreatDoor
namespace Go.Proofs.YtdjcdecbmeickaaGreatDoor
set_option maxHeartbeats 64000000
set_option maxRecDepth 100000
open Go.RowKit Go.Lib
def Box3 (w : World) (p0 p1 p2 : Nat) (vc vb : Value) (er ln : Int) : Prop :=
  w.cell? ⟨p0, 0, none⟩ = some vc ∧ w.cell? ⟨p0, 1, none⟩ = some vb ∧ w.cell? ⟨p1, 0, none⟩ = some (.int .i64 er) ∧ w.cell? ⟨p2, 0, none⟩ = some (.int .i64 ln) ∧ w.frozen? ⟨p0, 0, none⟩ = false ∧ w.frozen? ⟨p0, 1, none⟩ = false ∧ w.frozen? ⟨p1, 0, none⟩ = false ∧ w.frozen? ⟨p2, 0, none⟩ = false
end Go.Proofs.YtdjcdecbmeickaaGreatDoor
