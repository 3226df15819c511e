import Derived.Test.YthehgcmhcioffaaGreatDoorMg11
import Derived.Test.YthehgcmhcioffaaGreatDoorMg15
namespace Go.Proofs.YthehgcmhcioffaaGreatDoor
set_option maxHeartbeats 64000000
set_option maxRecDepth 100000
open Go.RowKit Go.Lib
theorem alt_dec (ll : Int) {ex : Dp Ex} (hx : Mn ex) (s : St) : mS (altD ll ex s).2 < mS s ∨ mS (altD ll ex s).2 = 0 := by
  by_cases h : s.e = 0
  · refine Or.inl ?_
    unfold altD
    split
    · exact Nat.lt_of_le_of_lt (Nt (hx _) (Nt (need_mn _ _ _) (names_mn _ _ _))) (tok_lt (by decide) h)
    split
    · exact Nat.lt_of_le_of_lt (Nt (hx _) (need_mn _ _ _)) (tok_lt (by decide) h)
    · exact Nat.lt_of_le_of_lt (Nt (hx _) (need_mn _ _ _)) (tok_lt (by decide) h)
  · exact Or.inr (Nat.le_zero.1 (by have := alt_mn (ll := ll) hx s; rw [mS_dead h] at this; exact this))
theorem dchoice_any (b : Nat) (T : List Tok) (k : Nat) (hEx : ExprDC b T k) (dd : Int) (hd : IntKind.i64.wrap (dd + 1) = 201 - (k : Int)) (s : St) (he : s.e = 0) (hne : s.r ≠ []) (w : World) (hP : PAt w b T s) : Calls Tryz.prog 128 #[.pointer (some ⟨b, 0, none⟩), .int .i64 dd] w (DSaid b T (ExV w.heap.size) (caseD (lastOf 1 T) (exprD (lastOf 1 T) k) s.next) w) := by
  have hlt : b < w.heap.size := hP.lt
  have hx := (Below.refl w.heap.size w).alloc Nr (.cells #[.int .i64 0, .string ⟨#[]⟩, .bool false, .int .u64 0, .slice none 0 0, .slice none 0 0, .slice none 0 0, .slice none 0 0] 37)
  have HX := Hd (Ai hx (BoxW.alloc w #[.int .i64 0, .string ⟨#[]⟩, .bool false, .int .u64 0, .slice none 0 0, .slice none 0 0, .slice none 0 0, .slice none 0 0] 37))
  have H0 := Hd (Ai (hP.later hx) (grown_of (b := b) (Below.refl (w.alloc (.cells #[.int .i64 0, .string ⟨#[]⟩, .bool false, .int .u64 0, .slice none 0 0, .slice none 0 0, .slice none 0 0, .slice none 0 0] 37)).heap.size (w.alloc (.cells #[.int .i64 0, .string ⟨#[]⟩, .bool false, .int .u64 0, .slice none 0 0, .slice none 0 0, .slice none 0 0, .slice none 0 0] 37)))))
  have HT0 := Hd hP.n
  clear hx hP
  go_enter Tryz.func128, Tryz.ntmps128
  go_upto_region 1 with fail
  have hsz0 : w.heap.size + 1 ≤ (w.alloc (.cells #[.int .i64 0, .string ⟨#[]⟩, .bool false, .int .u64 0, .slice none 0 0, .slice none 0 0, .slice none 0 0, .slice none 0 0] 37)).heap.size := by simp
  generalize (w.alloc (.cells #[.int .i64 0, .string ⟨#[]⟩, .bool false, .int .u64 0, .slice none 0 0, .slice none 0 0, .slice none 0 0, .slice none 0 0] 37)) = W at *
  have HD := Hd hd
  have HE0 := Hd he
  have HNE := Hd hne
  clear he hne
  have HPu := Hd (show caseD (lastOf 1 T) (exprD (lastOf 1 T) k) s.next = if (ofD (lastOf 1 T) ((exprD (lastOf 1 T) k) s.next).2).e = 0 ∧ seesL [125] (ofD (lastOf 1 T) ((exprD (lastOf 1 T) k) s.next).2).r = true then (.mk 7 [] false 0 [] [((exprD (lastOf 1 T) k) s.next).1] [] [], (ofD (lastOf 1 T) ((exprD (lastOf 1 T) k) s.next).2).next) else (.mk 7 [] false 0 [] [((exprD (lastOf 1 T) k) s.next).1] [] (someD (altD (lastOf 1 T) (exprD (lastOf 1 T) k)) (ofD (lastOf 1 T) ((exprD (lastOf 1 T) k) s.next).2)).1, needD (lastOf 1 T) [125] (someD (altD (lastOf 1 T) (exprD (lastOf 1 T) k)) (ofD (lastOf 1 T) ((exprD (lastOf 1 T) k) s.next).2)).2) from rfl)
  obtain ⟨i, hiT, hir, c1⟩ := H0.out.1.c1
  have y1 := H0.out.1.z 1
  have hTn := HT0.out
  have ej : IntKind.i64.wrap ((i : Int) + 1) = (i : Int) + 1 := by rw [IntKind.wrap_i64]; omega
  have hP9 := H0.out.1.next c1 HNE.out
  have hgs := set_grown W b 1 (.int .i64 ((i : Int) + 1))
  have H1 := Hd (Ai hP9 (Gt H0.out.2 hgs))
  have HG1 := Hd hgs
  have hsz1 : W.heap.size ≤ (W.setCell ⟨b, 1, none⟩ (.int .i64 ((i : Int) + 1))).heap.size := by simp
  clear hir hiT hP9 hgs
  go_wp2_with fail
  generalize (W.setCell ⟨b, 1, none⟩ (.int .i64 ((i : Int) + 1))) = w1 at *
  clear c1 y1
  have HM1 := Hd (show mS ((exprD (lastOf 1 T) k) s.next).2 ≤ 100000 by have h1 := next_lt HE0.out HNE.out; have h2 := mS_le H0.out.1; have h3 := expr_mn (ll := (lastOf 1 T)) k s.next; have := HT0.out; omega)
  refine (show Calls Tryz.prog 102 #[.pointer (some ⟨b, 0, none⟩), .int .i64 (201 - (k : Int))] w1 _ from hEx (s.next) w1 H1.out.1).mono ?_
  rintro e w2 ⟨⟨k0, nm, f, u, vp, vk, vb, va, rfl, hat⟩, hP, hg⟩
  have HG2 := Hd hg
  have hsz2 : w1.heap.size ≤ w2.heap.size := hg.size
  have H2 := Hd (Ai hP (Gt H1.out.2 hg))
  clear hP hg
  obtain ⟨⟨ap, np, cp, rfl⟩, ⟨ak, nk, ck, rfl⟩, ⟨ab, nb, cb, rfl⟩, ⟨a5, n5, c5, rfl⟩⟩ := hat.slices
  have HAx := Hd hat
  clear hat
  generalize (exprD (lastOf 1 T) k) (s.next) = Q at *
  obtain ⟨x, s1⟩ := Q
  go_wp2_with fail
  have hy1 := (Below.refl w2.heap.size w2).alloc Nr (.cells #[.int .i64 k0, .string nm, .bool f, .int .u64 u, .slice ap np cp, .slice ak nk ck, .slice ab nb cb, .slice a5 n5 c5] 37)
  have hy2 := (Below.refl (w2.alloc (.cells #[.int .i64 k0, .string nm, .bool f, .int .u64 u, .slice ap np cp, .slice ak nk ck, .slice ab nb cb, .slice a5 n5 c5] 37)).heap.size (w2.alloc (.cells #[.int .i64 k0, .string nm, .bool f, .int .u64 u, .slice ap np cp, .slice ak nk ck, .slice ab nb cb, .slice a5 n5 c5] 37))).alloc Nr (.cells #[.int .i64 7, .string ⟨#[]⟩, .bool false, .int .u64 0, .slice none 0 0, .slice (some ⟨w2.heap.size, 0, none⟩) 1 1, .slice none 0 0, .slice none 0 0] 37)
  have hy12 := onB' hy1 hy2
  have hsz3 : w2.heap.size + 2 ≤ ((w2.alloc (.cells #[.int .i64 k0, .string nm, .bool f, .int .u64 u, .slice ap np cp, .slice ak nk ck, .slice ab nb cb, .slice a5 n5 c5] 37)).alloc (.cells #[.int .i64 7, .string ⟨#[]⟩, .bool false, .int .u64 0, .slice none 0 0, .slice (some ⟨w2.heap.size, 0, none⟩) 1 1, .slice none 0 0, .slice none 0 0] 37)).heap.size := by simp
  have HBq := Hd (show BoxW ((w2.alloc (.cells #[.int .i64 k0, .string nm, .bool f, .int .u64 u, .slice ap np cp, .slice ak nk ck, .slice ab nb cb, .slice a5 n5 c5] 37)).alloc (.cells #[.int .i64 7, .string ⟨#[]⟩, .bool false, .int .u64 0, .slice none 0 0, .slice (some ⟨w2.heap.size, 0, none⟩) 1 1, .slice none 0 0, .slice none 0 0] 37)) (w2.heap.size + 1) [.int .i64 7, .string ⟨#[]⟩, .bool false, .int .u64 0, .slice none 0 0, .slice (some ⟨w2.heap.size, 0, none⟩) 1 1, .slice none 0 0, .slice none 0 0] by have h := BoxW.alloc (w2.alloc (.cells #[.int .i64 k0, .string nm, .bool f, .int .u64 u, .slice ap np cp, .slice ak nk ck, .slice ab nb cb, .slice a5 n5 c5] 37)) #[.int .i64 7, .string ⟨#[]⟩, .bool false, .int .u64 0, .slice none 0 0, .slice (some ⟨w2.heap.size, 0, none⟩) 1 1, .slice none 0 0, .slice none 0 0] 37; rwa [World.size_alloc] at h)
  have HKd := Hd (show RowAt ((w2.alloc (.cells #[.int .i64 k0, .string nm, .bool f, .int .u64 u, .slice ap np cp, .slice ak nk ck, .slice ab nb cb, .slice a5 n5 c5] 37)).alloc (.cells #[.int .i64 7, .string ⟨#[]⟩, .bool false, .int .u64 0, .slice none 0 0, .slice (some ⟨w2.heap.size, 0, none⟩) 1 1, .slice none 0 0, .slice none 0 0] 37)) (fun g => W.heap.size ≤ g ∧ g < (w2.heap.size + 1)) 37 8 (.slice (some ⟨w2.heap.size, 0, none⟩) 1 1) 1 [.int .i64 k0, .string nm, .bool f, .int .u64 u, .slice ap np cp, .slice ak nk ck, .slice ab nb cb, .slice a5 n5 c5] from (RowAt.of (own_built (W := (w2.alloc (.cells #[.int .i64 k0, .string nm, .bool f, .int .u64 u, .slice ap np cp, .slice ak nk ck, .slice ab nb cb, .slice a5 n5 c5] 37))) (g := w2.heap.size) (base := w2.heap.size) (size := 8) (n := 1) (cs := #[.int .i64 k0, .string nm, .bool f, .int .u64 u, .slice ap np cp, .slice ak nk ck, .slice ab nb cb, .slice a5 n5 c5]) (heap_alloc_new _ _) Nr rfl (by decide)) (K := fun g => w2.heap.size ≤ g) (fun _ h => h)).move (fun g hg lt => ⟨⟨by omega, by have h2 : g < w2.heap.size + 1 := (by simpa using lt); omega⟩, hy2.block g lt⟩))
  have HAk := Hd (show ExAt ((w2.alloc (.cells #[.int .i64 k0, .string nm, .bool f, .int .u64 u, .slice ap np cp, .slice ak nk ck, .slice ab nb cb, .slice a5 n5 c5] 37)).alloc (.cells #[.int .i64 7, .string ⟨#[]⟩, .bool false, .int .u64 0, .slice none 0 0, .slice (some ⟨w2.heap.size, 0, none⟩) 1 1, .slice none 0 0, .slice none 0 0] 37)) (fun g => W.heap.size ≤ g ∧ g < (w2.heap.size + 1)) x [.int .i64 k0, .string nm, .bool f, .int .u64 u, .slice ap np cp, .slice ak nk ck, .slice ab nb cb, .slice a5 n5 c5] from HAx.out.move (fun g hg lt => ⟨⟨by omega, by omega⟩, hy12.block g lt⟩))
  have HG3 := Hd (grown_of (b := b) hy12)
  have H3 := Hd (Ai (H2.out.1.later hy12) (Gt H2.out.2 HG3.out))
  clear hy1 hy2 hy12 HAx
  generalize ((w2.alloc (.cells #[.int .i64 k0, .string nm, .bool f, .int .u64 u, .slice ap np cp, .slice ak nk ck, .slice ab nb cb, .slice a5 n5 c5] 37)).alloc (.cells #[.int .i64 7, .string ⟨#[]⟩, .bool false, .int .u64 0, .slice none 0 0, .slice (some ⟨w2.heap.size, 0, none⟩) 1 1, .slice none 0 0, .slice none 0 0] 37)) = w3 at *
  refine (dneed_any b T (s1) [111, 102] w3 H3.out.1).mono ?_
  rintro e w4 ⟨rfl, hP, hg⟩
  have HG4 := Hd hg
  have hsz4 : w3.heap.size ≤ w4.heap.size := hg.size
  have H4 := Hd (Ai hP (Gt H3.out.2 hg))
  clear hP hg
  replace HBq := Hd (boxw_grown HBq.out HG4.out (by omega))
  go_wp2_with fail
  refine (dneed_any b T (needD (lastOf 1 T) [111, 102] (s1)) [123] w4 H4.out.1).mono ?_
  rintro e w5 ⟨rfl, hP, hg⟩
  have HG5 := Hd hg
  have hsz5 : w4.heap.size ≤ w5.heap.size := hg.size
  have H5 := Hd (Ai hP (Gt H4.out.2 hg))
  clear hP hg
  replace HBq := Hd (boxw_grown HBq.out HG5.out (by omega))
  have HMs := Hd (show mS (needD (lastOf 1 T) [123] (needD (lastOf 1 T) [111, 102] (s1))) ≤ 100000 by have h1 := of_mn (lastOf 1 T) (s1); have h2 := HM1.out; unfold ofD at h1; omega)
  have HPv0 := Hd (show caseD (lastOf 1 T) (exprD (lastOf 1 T) k) s.next = if (needD (lastOf 1 T) [123] (needD (lastOf 1 T) [111, 102] (s1))).e = 0 ∧ seesL [125] (needD (lastOf 1 T) [123] (needD (lastOf 1 T) [111, 102] (s1))).r = true then (.mk 7 [] false 0 [] [x] [] [], (needD (lastOf 1 T) [123] (needD (lastOf 1 T) [111, 102] (s1))).next) else (.mk 7 [] false 0 [] [x] [] (someD (altD (lastOf 1 T) (exprD (lastOf 1 T) k)) (needD (lastOf 1 T) [123] (needD (lastOf 1 T) [111, 102] (s1)))).1, needD (lastOf 1 T) [125] (someD (altD (lastOf 1 T) (exprD (lastOf 1 T) k)) (needD (lastOf 1 T) [123] (needD (lastOf 1 T) [111, 102] (s1)))).2) from HPu.out)
  clear HPu
  generalize needD (lastOf 1 T) [123] (needD (lastOf 1 T) [111, 102] (s1)) = s2 at *
  have c2 := H5.out.1.c2
  by_cases ge : s2.e = 0
  · have f1 : (s2.e == 0) = true := by simp [ge]
    have hc := dsees_any b T s2 [125] w5 H5.out.1
    by_cases hs : seesL [125] s2.r = true
    · have HPv := Hd (HPv0.out.trans (if_pos ⟨ge, hs⟩))
      have HN2 := Hd (sees_ne hs)
      rw [hs] at hc
      clear hs ge HPv0
      have HC := Hd hc
      clear hc
      go_wp2_with fail
      refine HC.out.mono ?_
      rintro e w6 ⟨rfl, hb⟩
      have HG6 := Hd (grown_of (b := b) hb)
      have hsz6 : w5.heap.size ≤ w6.heap.size := hb.size
      have H6 := Hd (Ai (H5.out.1.later hb) (Gt H5.out.2 HG6.out))
      clear HC hb c2
      replace HBq := Hd (boxw_grown HBq.out HG6.out (by omega))
      obtain ⟨i, hiT, hir, c1⟩ := H6.out.1.c1
      have y1 := H6.out.1.z 1
      have hTn := HT0.out
      have ej : IntKind.i64.wrap ((i : Int) + 1) = (i : Int) + 1 := by rw [IntKind.wrap_i64]; omega
      have hP9 := H6.out.1.next c1 HN2.out
      have hgs := set_grown w6 b 1 (.int .i64 ((i : Int) + 1))
      have H7 := Hd (Ai hP9 (Gt H6.out.2 hgs))
      have HG7 := Hd hgs
      have hsz7 : w6.heap.size ≤ (w6.setCell ⟨b, 1, none⟩ (.int .i64 ((i : Int) + 1))).heap.size := by simp
      clear hir hiT hP9 hgs
      go_upto_region 7 with fail
      generalize (w6.setCell ⟨b, 1, none⟩ (.int .i64 ((i : Int) + 1))) = w7 at *
      clear c1 y1
      replace HBq := Hd (boxw_grown HBq.out HG7.out (by omega))
      obtain ⟨q0, q1, q2, q3, q4, q5, q6, q7⟩ := (HBq.out).q8
      have hBp := boxw_grown HX.out.2 H7.out.2 (by omega)
      obtain ⟨d0, d1, d2, d3, d4, d5, d6, d7⟩ := (hBp).q8
      obtain ⟨z0, z1, z2, z3, z4, z5, z6, z7⟩ := (hBp).z8
      have HBp := Hd hBp
      clear hBp
      go_wp2_with fail
      have hF := ((HBp.out).b8v (.int .i64 7) (.string ⟨#[]⟩) (.bool false) (.int .u64 0) (.slice none 0 0) (.slice (some ⟨w2.heap.size, 0, none⟩) 1 1) (.slice none 0 0) (.slice none 0 0))
      have v0 := hF.1 0 _ rfl
      have v1 := hF.1 1 _ rfl
      have v2 := hF.1 2 _ rfl
      have v3 := hF.1 3 _ rfl
      have v4 := hF.1 4 _ rfl
      have v5 := hF.1 5 _ rfl
      have v6 := hF.1 6 _ rfl
      have v7 := hF.1 7 _ rfl
      refine bodyPost_ret (v := .agg #[.int .i64 7, .string ⟨#[]⟩, .bool false, .int .u64 0, .slice none 0 0, .slice (some ⟨w2.heap.size, 0, none⟩) 1 1, .slice none 0 0, .slice none 0 0]) (by simp [results, Tryz.results128, go_sem, v0, v1, v2, v3, v4, v5, v6, v7]) rfl ?_
      rw [HPv.out]
      refine ⟨⟨_, _, _, _, _, _, _, _, rfl, .mk 7 [] false 0 [] [x] [] [] _ _ _ (.slice none 0 0) [.int .i64 k0, .string nm, .bool f, .int .u64 u, .slice ap np cp, .slice ak nk ck, .slice ab nb cb, .slice a5 n5 c5] [] [] (RowAt.nil _ _ _ _) (HKd.out.move (fun g hg lt => ⟨(Nt (by omega) hg.1 : w.heap.size ≤ g), ((((((((Kp.grown HG4.out (by omega) (by omega)).trans (Kp.grown HG5.out (by omega) (by omega)))).trans (Kp.grown HG6.out (by omega) (by omega)))).trans (Kp.grown HG7.out (by omega) (by omega)))).trans ((Kp.s8 (Or.inl (by omega))))) g hg.1 hg.2⟩)) (RowAt.nil _ _ _ _) (RowAt.nil _ _ _ _) (ExsAt.cons x [] [.int .i64 k0, .string nm, .bool f, .int .u64 u, .slice ap np cp, .slice ak nk ck, .slice ab nb cb, .slice a5 n5 c5] [] (HAk.out.move (fun g hg lt => ⟨(Nt (by omega) hg.1 : w.heap.size ≤ g), ((((((((Kp.grown HG4.out (by omega) (by omega)).trans (Kp.grown HG5.out (by omega) (by omega)))).trans (Kp.grown HG6.out (by omega) (by omega)))).trans (Kp.grown HG7.out (by omega) (by omega)))).trans ((Kp.s8 (Or.inl (by omega))))) g hg.1 hg.2⟩)) .nil) .nil .nil⟩, ((((((((H7.out.1).over hlt _).over hlt _).over hlt _).over hlt _).over hlt _).over hlt _).over hlt _).over hlt _, (grown_new (grown_new (grown_new (grown_new (grown_new (grown_new (grown_new (grown_new (Gt (grown_of (b := b) HX.out.1) H7.out.2) Nr _) Nr _) Nr _) Nr _) Nr _) Nr _) Nr _) Nr _)⟩
    · have hs' : seesL [125] s2.r = false := by simpa using hs
      rw [hs'] at hc
      have HC := Hd hc
      have HNs := Hd hs
      clear hc hs hs' ge
      go_wp2_with fail
      refine HC.out.mono ?_
      rintro e w6 ⟨rfl, hb⟩
      have HG6 := Hd (grown_of (b := b) hb)
      have hsz6 : w5.heap.size ≤ w6.heap.size := hb.size
      have H6 := Hd (Ai (H5.out.1.later hb) (Gt H5.out.2 HG6.out))
      clear HC hb c2
      replace HBq := Hd (boxw_grown HBq.out HG6.out (by omega))
      go_upto_region 8 with fail
      have HPv := Hd (HPv0.out.trans (if_neg (fun h => HNs.out h.2)))
      have HKk := Hd (show Kp W.heap.size (w2.heap.size + 1) w3 w6 from ((((Kp.grown HG4.out (by omega) (by omega)).trans (Kp.grown HG5.out (by omega) (by omega)))).trans (Kp.grown HG6.out (by omega) (by omega))))
      have HCo := Hd (fun (W' : World) (hb : Below w6.heap.size w6 W') => dalt_any b T k hEx dd HD.out s2 W' (H6.out.1.later hb))
      have q7 : w6.cell? ⟨(w2.heap.size + 1), 7, none⟩ = some (.slice none 0 0) := HBq.out.1 7 _ rfl
      have HHn := Hd H6.out
      have HMb := Hd (alt_dec (lastOf 1 T) (ex := (exprD (lastOf 1 T) k)) (expr_mn k) s2)
      have HSM := Hd (show someD (altD (lastOf 1 T) (exprD (lastOf 1 T) k)) s2 = moreD (altD (lastOf 1 T) (exprD (lastOf 1 T) k)) (((altD (lastOf 1 T) (exprD (lastOf 1 T) k)) s2).2.r.length + 1) [((altD (lastOf 1 T) (exprD (lastOf 1 T) k)) s2).1] ((altD (lastOf 1 T) (exprD (lastOf 1 T) k)) s2).2 from rfl)
      have HVn : some (w2.heap.size + 1) ≠ (Value.slice none 0 0).ownBlock := fun e => by cases e
      have HVN := Hd HVn
      have hpN : (w2.heap.size + 1) < w6.heap.size := by omega
      clear HPv0 HVn
      generalize someD (altD (lastOf 1 T) (exprD (lastOf 1 T) k)) s2 = SM at *
      generalize (altD (lastOf 1 T) (exprD (lastOf 1 T) k)) s2 = Q at *
      obtain ⟨a, s3⟩ := Q
      go_region_law
        (first
          | (refine step_onto_alt rfl _ _ rfl (w55.alloc (.cells #[.int .i64 a.1, .string (tx a.2.1), .bool a.2.2.1, .int .u64 a.2.2.2.1, .slice ap0 np0 cp0, .int .i64 k1, .string nm1, .bool fl1, .int .u64 u1, .slice ap1 np1 cp1, .slice ak1 nk1 ck1, .slice ab1 nb1 cb1, .slice aa1 na1 ca1] 56)) ((w2.heap.size + 1) + 1) 0 (.slice none 0 0) [] rfl (World.ownsRow_nil _ _ _ _) w55.heap.size 1 [.int .i64 a.1, .string (tx a.2.1), .bool a.2.2.1, .int .u64 a.2.2.2.1, .slice ap0 np0 cp0, .int .i64 k1, .string nm1, .bool fl1, .int .u64 u1, .slice ap1 np1 cp1, .slice ak1 nk1 ck1, .slice ab1 nb1 cb1, .slice aa1 na1 ca1] _ rfl (own_built (cs := #[.int .i64 a.1, .string (tx a.2.1), .bool a.2.2.1, .int .u64 a.2.2.2.1, .slice ap0 np0 cp0, .int .i64 k1, .string nm1, .bool fl1, .int .u64 u1, .slice ap1 np1 cp1, .slice ak1 nk1 ck1, .slice ab1 nb1 cb1, .slice aa1 na1 ca1]) (heap_alloc_new _ _) Nr rfl (by decide)) HO1.out (by omega) HS6.out ?_; intro ao cap w59 hon; have hBx := boxw_o HB6.out hon.2.1 HVN.out; have qb7 := hBx.1 7 _ rfl; have zb7 := hBx.2 7; have H9 := Hd (Ai hon hBx); clear hon hBx)
          | (refine step_wanted rfl ?_; go_simp; go_at_call 149; refine (HCo.out _ (by first | exact Br | exact Br.drew | exact dbelow Br _)).mono ?_; rintro e w55 ⟨⟨vp0, k1, nm1, fl1, u1, vq, vk, vb, va, rfl, hrow, hat⟩, hP5, hg5'⟩; obtain ⟨ap0, np0, cp0, rfl⟩ := hrow.slice; obtain ⟨⟨ap1, np1, cp1, rfl⟩, ⟨ak1, nk1, ck1, rfl⟩, ⟨ab1, nb1, cb1, rfl⟩, ⟨aa1, na1, ca1, rfl⟩⟩ := hat.slices; have hg5 : w6.grownBy w55 (some b) := Gt (grown_of (by first | exact Br | exact Br.drew | exact dbelow Br _)) hg5'; have hB5 := boxw_grown HBq.out hg5 (by omega); have q7 := hB5.1 7 _ rfl; have hy5 := (Below.refl w55.heap.size w55).alloc Nr (.cells #[.int .i64 a.1, .string (tx a.2.1), .bool a.2.2.1, .int .u64 a.2.2.2.1, .slice ap0 np0 cp0, .int .i64 k1, .string nm1, .bool fl1, .int .u64 u1, .slice ap1 np1 cp1, .slice ak1 nk1 ck1, .slice ab1 nb1 cb1, .slice aa1 na1 ca1] 56); have qc7 := (hB5.below hy5).1 7 _ rfl; have HB6 := Hd (hB5.below hy5); have HO1 := Hd (show ∀ zz ∈ ([.int .i64 a.1, .string (tx a.2.1), .bool a.2.2.1, .int .u64 a.2.2.2.1, .slice ap0 np0 cp0, .int .i64 k1, .string nm1, .bool fl1, .int .u64 u1, .slice ap1 np1 cp1, .slice ak1 nk1 ck1, .slice ab1 nb1 cb1, .slice aa1 na1 ca1] : List Value), zz.oneCell' = true by intro z hz; simp at hz; rcases hz with rfl | rfl | rfl | rfl | rfl | rfl | rfl | rfl | rfl | rfl | rfl | rfl | rfl <;> rfl); have hs5 : w6.heap.size ≤ w55.heap.size := hg5.size; have HS6 := Hd (show (w2.heap.size + 1) + 1 ≤ (w55.alloc (.cells #[.int .i64 a.1, .string (tx a.2.1), .bool a.2.2.1, .int .u64 a.2.2.2.1, .slice ap0 np0 cp0, .int .i64 k1, .string nm1, .bool fl1, .int .u64 u1, .slice ap1 np1 cp1, .slice ak1 nk1 ck1, .slice ab1 nb1 cb1, .slice aa1 na1 ca1] 56)).heap.size by have := hy5.size; omega); have H6 := Hd (Ai (show PAt w55 b T s3 from hP5) (Ai hg5 (Ai (show RowAt w55 (fun g => w6.heap.size ≤ g) 9 1 (.slice ap0 np0 cp0) a.2.2.2.2.1.length (namesV a.2.2.2.2.1) from hrow) (Ai (show ExAt w55 (fun g => w6.heap.size ≤ g) a.2.2.2.2.2 _ from hat) hy5)))); clear hP5 hg5 hg5' hrow hat hy5 hB5))
      all_goals
        go_upto_region 9 with fail
        obtain ⟨⟨o1, o2, o3⟩, hB9⟩ := H9.out
        obtain ⟨hP5, hg5, hrow, hat, hy5⟩ := H6.out
        have hs5 := hg5.size
        have hs6 := hy5.size
        have hlow9 : ∀ g, (Value.slice none 0 0).ownBlock = some g → (w2.heap.size + 1) + 1 ≤ g := fun g e => by cases e
        obtain ⟨q, hq, hg9⟩ := grown_some (b := b) o2 (fun g e => by have := hlow9 g e; omega)
        have hs9 := hg9.size
        have hP9 := ((hP5.later hy5).past hg9 hq).over (p := (w2.heap.size + 1)) (i := 7) (by omega) (.slice ao (0 + 1) cap)
        have hG9 := grown_new (grown_past (Gt HHn.out.2 (Gt hg5 (grown_of hy5))) o2 (fun g e => by have := hlow9 g e; omega)) (p := (w2.heap.size + 1)) (i := 7) (by omega) (.slice ao (0 + 1) cap)
        have hvn : some (w2.heap.size + 1) ≠ (Value.slice ao (0 + 1) cap).ownBlock := fun e => by
          rcases o3 with h | h
          · exact HVN.out (e.trans h)
          · have h2 : w2.heap.size + 1 = (w55.alloc (.cells #[.int .i64 a.1, .string (tx a.2.1), .bool a.2.2.1, .int .u64 a.2.2.2.1, .slice ap0 np0 cp0, .int .i64 k1, .string nm1, .bool fl1, .int .u64 u1, .slice ap1 np1 cp1, .slice ak1 nk1 ck1, .slice ab1 nb1 cb1, .slice aa1 na1 ca1] 56)).heap.size := Oi (e.trans h)
            omega
        have hO9 := own_o o1 (set_grown w59 (w2.heap.size + 1) 7 (.slice ao (0 + 1) cap)) (fun g e e2 => hvn (e2.symm.trans e.symm))
        have hBf := hB9.set 7 (show 7 < 8 by decide) (.slice ao (0 + 1) cap)
        have hnw : ∀ g, g ≠ (w2.heap.size + 1) → (w59.setCell ⟨(w2.heap.size + 1), 7, none⟩ (.slice ao (0 + 1) cap)).heap[g]? = w59.heap[g]? := fun g h => Below.heap_setCell _ _ _ _ (by simp only; omega)
        have hfar : ∀ g, w6.heap.size ≤ g → g < w55.heap.size → (W.heap.size ≤ g ∧ some g ≠ (Value.slice ao (0 + 1) cap).ownBlock ∧ g ≠ (w2.heap.size + 1)) ∧ (w59.setCell ⟨(w2.heap.size + 1), 7, none⟩ (.slice ao (0 + 1) cap)).heap[g]? = w55.heap[g]? := fun g h1 h2 => by
          have hne : some g ≠ (Value.slice none 0 0).ownBlock := fun e => by cases e
          refine ⟨⟨by omega, fun e => ?_, by omega⟩, (hnw g (by omega)).trans ((o2.block g (by omega) hne).trans (hy5.block g h2))⟩
          rcases o3 with h | h
          · exact hne (e.trans h)
          · have h3 : g = (w55.alloc (.cells #[.int .i64 a.1, .string (tx a.2.1), .bool a.2.2.1, .int .u64 a.2.2.2.1, .slice ap0 np0 cp0, .int .i64 k1, .string nm1, .bool fl1, .int .u64 u1, .slice ap1 np1 cp1, .slice ak1 nk1 ck1, .slice ab1 nb1 cb1, .slice aa1 na1 ca1] 56)).heap.size := Oi (e.trans h)
            omega
        have HBL := Hd (show BoxW (w59.setCell ⟨(w2.heap.size + 1), 7, none⟩ (.slice ao (0 + 1) cap)) (w2.heap.size + 1) [.int .i64 7, .string ⟨#[]⟩, .bool false, .int .u64 0, .slice none 0 0, .slice (some ⟨w2.heap.size, 0, none⟩) 1 1, .slice none 0 0, .slice ao (0 + 1) cap] from hBf)
        have HOL := Hd (show (w59.setCell ⟨(w2.heap.size + 1), 7, none⟩ (.slice ao (0 + 1) cap)).ownsRow ((w2.heap.size + 1) + 1) 56 13 (.slice ao (0 + 1) cap) 1 [.int .i64 a.1, .string (tx a.2.1), .bool a.2.2.1, .int .u64 a.2.2.2.1, .slice ap0 np0 cp0, .int .i64 k1, .string nm1, .bool fl1, .int .u64 u1, .slice ap1 np1 cp1, .slice ak1 nk1 ck1, .slice ab1 nb1 cb1, .slice aa1 na1 ca1] by simpa using hO9)
        have HXL := Hd (show AltsAt (w59.setCell ⟨(w2.heap.size + 1), 7, none⟩ (.slice ao (0 + 1) cap)) (fun g => W.heap.size ≤ g ∧ some g ≠ (.slice ao (0 + 1) cap : Value).ownBlock ∧ g ≠ (w2.heap.size + 1)) [a] [.int .i64 a.1, .string (tx a.2.1), .bool a.2.2.1, .int .u64 a.2.2.2.1, .slice ap0 np0 cp0, .int .i64 k1, .string nm1, .bool fl1, .int .u64 u1, .slice ap1 np1 cp1, .slice ak1 nk1 ck1, .slice ab1 nb1 cb1, .slice aa1 na1 ca1] from AltsAt.cons a.1 a.2.1 a.2.2.1 a.2.2.2.1 a.2.2.2.2.1 a.2.2.2.2.2 [] (.slice ap0 np0 cp0) [.int .i64 k1, .string nm1, .bool fl1, .int .u64 u1, .slice ap1 np1 cp1, .slice ak1 nk1 ck1, .slice ab1 nb1 cb1, .slice aa1 na1 ca1] [] (hrow.move fun g hg lt => hfar g hg lt) (hat.move fun g hg lt => hfar g hg lt) .nil)
        have HPL := Hd (Ai hP9 hG9)
        have HVL := Hd hvn
        have HKL := Hd (show Kp W.heap.size (w2.heap.size + 1) w3 (w59.setCell ⟨(w2.heap.size + 1), 7, none⟩ (.slice ao (0 + 1) cap)) from fun g h1 h2 => (hnw g (by omega)).trans ((o2.block g (by omega) (fun e => by cases e)).trans ((hy5.block g (by omega)).trans ((hg5.block g (by omega) (by simp; omega)).trans (HKk.out g h1 h2)))))
        have hszL : (w2.heap.size + 1) < (w59.setCell ⟨(w2.heap.size + 1), 7, none⟩ (.slice ao (0 + 1) cap)).heap.size := by simp; omega
        clear o1 o2 o3 hB9 hP5 hg5 hrow hat hy5 hs5 hs6 hlow9 hg9 hs9 hP9 hG9 hvn hO9 hBf hnw hfar hq
        generalize (w59.setCell ⟨(w2.heap.size + 1), 7, none⟩ (.slice ao (0 + 1) cap)) = WL at *
        go_loopw [] (fun wr => ∃ (s' : St) (bs : List Alt) (vb : Value) (cs : List Value) (fu : Nat), PAt wr b T s' ∧ W.grownBy wr (some b) ∧ mS s' ≤ fu ∧ moreD (altD (lastOf 1 T) (exprD (lastOf 1 T) k)) fu bs s' = SM ∧ (bs.length + mS s' ≤ mS s2 ∨ mS s' = 0) ∧ BoxW wr (w2.heap.size + 1) [.int .i64 7, .string ⟨#[]⟩, .bool false, .int .u64 0, .slice none 0 0, .slice (some ⟨w2.heap.size, 0, none⟩) 1 1, .slice none 0 0, vb] ∧ wr.ownsRow ((w2.heap.size + 1) + 1) 56 13 vb bs.length cs ∧ AltsAt wr (fun g => W.heap.size ≤ g ∧ some g ≠ (vb : Value).ownBlock ∧ g ≠ (w2.heap.size + 1)) bs cs ∧ some (w2.heap.size + 1) ≠ vb.ownBlock ∧ WL.heap.size ≤ wr.heap.size ∧ Kp W.heap.size (w2.heap.size + 1) w3 wr) (fun wr => stM T.length b wr)
        case atStart => exact ⟨s3, [a], _, _, _, HPL.out.1, HPL.out.2, by unfold mS; split <;> omega, HSM.out.symm, by have h : mS s3 < mS s2 ∨ mS s3 = 0 := HMb.out; simp only [List.length_singleton]; omega, HBL.out, HOL.out, HXL.out, HVL.out, Nat.le_refl _, HKL.out⟩
        case round =>
          obtain ⟨s', bs, vb, cs, fu, hP, hg, hfu, hN, hn, hB, hown, hbt, hvp, hsL, hkw⟩ := hrel
          obtain ⟨aa, cc, rfl, hlow⟩ := own_shape hown
          have c2 := hP.c2
          have HS0 := Hd hP
          have HBq := Hd hB
          have HOb := Hd hown
          have HXb := Hd hbt
          have HVp := Hd hvp
          have HLw := Hd hlow
          have HKw := Hd hkw
          have HLt := Hd (show ∀ g, (Value.slice aa bs.length cc).ownBlock = some g → g < wr.heap.size from fun g e => (hown.lt g e).2)
          have H120 := Hd (Ai hP hg)
          have HQ := Hd (Ai hfu hn)
          have HM := Hd hN
          have hpr : (w2.heap.size + 1) < wr.heap.size := by omega
          clear hP hg hfu hN hn hB hown hbt hvp hlow hkw
          by_cases ge : s'.e = 0
          · have f1 : (s'.e == 0) = true := by simp [ge]
            have hc := dsees_any b T s' [59] wr H120.out.1
            by_cases hs : seesL [59] s'.r = true
            · rw [hs] at hc
              have hN := HM.out
              obtain ⟨fu', rfl⟩ : ∃ q, fu = q + 1 := ⟨fu - 1, by have := HQ.out.1; have := mS_alive ge; omega⟩
              rw [more_go ge hs] at hN
              have HN := Hd hN
              have HNE2 := Hd (sees_ne hs)
              have HGE := Hd ge
              have HC := Hd hc
              clear hN hc hs ge
              go_wp2_with fail
              refine HC.out.mono ?_
              rintro e w121 ⟨rfl, hb⟩
              have HG121 := Hd (grown_of (b := b) hb)
              have hsz121 : wr.heap.size ≤ w121.heap.size := hb.size
              have H121 := Hd (Ai (H120.out.1.later hb) (Gt H120.out.2 HG121.out))
              clear HC hb
              replace HBq := Hd (boxw_grown HBq.out HG121.out (by omega))
              obtain ⟨i, hiT, hir, c1⟩ := H121.out.1.c1
              have y1 := H121.out.1.z 1
              have hTn := HT0.out
              have ej : IntKind.i64.wrap ((i : Int) + 1) = (i : Int) + 1 := by rw [IntKind.wrap_i64]; omega
              have hP9 := H121.out.1.next c1 HNE2.out
              have hgs := set_grown w121 b 1 (.int .i64 ((i : Int) + 1))
              have H122 := Hd (Ai hP9 (Gt H121.out.2 hgs))
              have HG122 := Hd hgs
              have hsz122 : w121.heap.size ≤ (w121.setCell ⟨b, 1, none⟩ (.int .i64 ((i : Int) + 1))).heap.size := by simp
              clear hir hiT hP9 hgs
              go_wp2_with fail
              generalize (w121.setCell ⟨b, 1, none⟩ (.int .i64 ((i : Int) + 1))) = w122 at *
              clear c1 y1
              replace HBq := Hd (boxw_grown HBq.out HG122.out (by omega))
              have HOn := Hd (own_kept HOb.out (Gt HG121.out HG122.out) (fun e => by have := HLw.out b e; omega))
              have HCo := Hd (fun (W' : World) (hb : Below w122.heap.size w122 W') => dalt_any b T k hEx dd HD.out s'.next W' (H122.out.1.later hb))
              have q7 : w122.cell? ⟨(w2.heap.size + 1), 7, none⟩ = some (.slice aa bs.length cc) := HBq.out.1 7 _ rfl
              have hm1 := mS_alive HGE.out
              have hnm : bs.length + 1 ≤ 100000 := by have := HQ.out.2; have := HMs.out; omega
              have HLT := Hd (show mS ((altD (lastOf 1 T) (exprD (lastOf 1 T) k)) s'.next).2 < mS s' by have h1 := alt_dec (lastOf 1 T) (ex := (exprD (lastOf 1 T) k)) (expr_mn k) s'.next; have h2 := next_mn s'; omega)
              have HHm := Hd H122.out
              clear hm1
              generalize (altD (lastOf 1 T) (exprD (lastOf 1 T) k)) s'.next = Q at *
              obtain ⟨a, s3⟩ := Q
              go_region_law
                (first
                  | (refine step_onto_alt rfl _ _ rfl (w55.alloc (.cells #[.int .i64 a.1, .string (tx a.2.1), .bool a.2.2.1, .int .u64 a.2.2.2.1, .slice ap0 np0 cp0, .int .i64 k1, .string nm1, .bool fl1, .int .u64 u1, .slice ap1 np1 cp1, .slice ak1 nk1 ck1, .slice ab1 nb1 cb1, .slice aa1 na1 ca1] 56)) ((w2.heap.size + 1) + 1) bs.length (.slice aa bs.length cc) cs rfl HO6.out w55.heap.size 1 [.int .i64 a.1, .string (tx a.2.1), .bool a.2.2.1, .int .u64 a.2.2.2.1, .slice ap0 np0 cp0, .int .i64 k1, .string nm1, .bool fl1, .int .u64 u1, .slice ap1 np1 cp1, .slice ak1 nk1 ck1, .slice ab1 nb1 cb1, .slice aa1 na1 ca1] _ rfl (own_built (cs := #[.int .i64 a.1, .string (tx a.2.1), .bool a.2.2.1, .int .u64 a.2.2.2.1, .slice ap0 np0 cp0, .int .i64 k1, .string nm1, .bool fl1, .int .u64 u1, .slice ap1 np1 cp1, .slice ak1 nk1 ck1, .slice ab1 nb1 cb1, .slice aa1 na1 ca1]) (heap_alloc_new _ _) Nr rfl (by decide)) HO1.out (by omega) HS6.out ?_; intro ao cap w59 hon; have hBx := boxw_o HB6.out hon.2.1 HVp.out; have qb7 := hBx.1 7 _ rfl; have zb7 := hBx.2 7; have H9 := Hd (Ai hon hBx); clear hon hBx)
                  | (refine step_wanted rfl ?_; go_simp; go_at_call 149; refine (HCo.out _ (by first | exact Br | exact Br.drew | exact dbelow Br _)).mono ?_; rintro e w55 ⟨⟨vp0, k1, nm1, fl1, u1, vq, vk, vb, va, rfl, hrow, hat⟩, hP5, hg5'⟩; obtain ⟨ap0, np0, cp0, rfl⟩ := hrow.slice; obtain ⟨⟨ap1, np1, cp1, rfl⟩, ⟨ak1, nk1, ck1, rfl⟩, ⟨ab1, nb1, cb1, rfl⟩, ⟨aa1, na1, ca1, rfl⟩⟩ := hat.slices; have hg5 : w122.grownBy w55 (some b) := Gt (grown_of (by first | exact Br | exact Br.drew | exact dbelow Br _)) hg5'; have hB5 := boxw_grown HBq.out hg5 (by omega); have q7 := hB5.1 7 _ rfl; have hy5 := (Below.refl w55.heap.size w55).alloc Nr (.cells #[.int .i64 a.1, .string (tx a.2.1), .bool a.2.2.1, .int .u64 a.2.2.2.1, .slice ap0 np0 cp0, .int .i64 k1, .string nm1, .bool fl1, .int .u64 u1, .slice ap1 np1 cp1, .slice ak1 nk1 ck1, .slice ab1 nb1 cb1, .slice aa1 na1 ca1] 56); have qc7 := (hB5.below hy5).1 7 _ rfl; have HB6 := Hd (hB5.below hy5); have HO6 := Hd (own_below (own_kept HOn.out hg5 (fun e => by have := HLw.out b e; omega)) hy5); have HO1 := Hd (show ∀ zz ∈ ([.int .i64 a.1, .string (tx a.2.1), .bool a.2.2.1, .int .u64 a.2.2.2.1, .slice ap0 np0 cp0, .int .i64 k1, .string nm1, .bool fl1, .int .u64 u1, .slice ap1 np1 cp1, .slice ak1 nk1 ck1, .slice ab1 nb1 cb1, .slice aa1 na1 ca1] : List Value), zz.oneCell' = true by intro z hz; simp at hz; rcases hz with rfl | rfl | rfl | rfl | rfl | rfl | rfl | rfl | rfl | rfl | rfl | rfl | rfl <;> rfl); have hs5 : w122.heap.size ≤ w55.heap.size := hg5.size; have HS6 := Hd (show (w2.heap.size + 1) + 1 ≤ (w55.alloc (.cells #[.int .i64 a.1, .string (tx a.2.1), .bool a.2.2.1, .int .u64 a.2.2.2.1, .slice ap0 np0 cp0, .int .i64 k1, .string nm1, .bool fl1, .int .u64 u1, .slice ap1 np1 cp1, .slice ak1 nk1 ck1, .slice ab1 nb1 cb1, .slice aa1 na1 ca1] 56)).heap.size by have := hy5.size; omega); have H6 := Hd (Ai (show PAt w55 b T s3 from hP5) (Ai hg5 (Ai (show RowAt w55 (fun g => w122.heap.size ≤ g) 9 1 (.slice ap0 np0 cp0) a.2.2.2.2.1.length (namesV a.2.2.2.2.1) from hrow) (Ai (show ExAt w55 (fun g => w122.heap.size ≤ g) a.2.2.2.2.2 _ from hat) hy5)))); clear hP5 hg5 hg5' hrow hat hy5 hB5))
              all_goals
                go_wp2_with fail
                obtain ⟨⟨o1, o2, o3⟩, hB9⟩ := H9.out
                obtain ⟨hP5, hg5, hrow, hat, hy5⟩ := H6.out
                have hs5 := hg5.size
                have hs6 := hy5.size
                have hlow9 : ∀ g, (Value.slice aa bs.length cc).ownBlock = some g → (w2.heap.size + 1) + 1 ≤ g := HLw.out
                obtain ⟨q, hq, hg9⟩ := grown_some (b := b) o2 (fun g e => by have := hlow9 g e; omega)
                have hs9 := hg9.size
                have hP9 := ((hP5.later hy5).past hg9 hq).over (p := (w2.heap.size + 1)) (i := 7) (by omega) (.slice ao (bs.length + 1) cap)
                have hG9 := grown_new (grown_past (Gt HHm.out.2 (Gt hg5 (grown_of hy5))) o2 (fun g e => by have := hlow9 g e; omega)) (p := (w2.heap.size + 1)) (i := 7) (by omega) (.slice ao (bs.length + 1) cap)
                have hvn : some (w2.heap.size + 1) ≠ (Value.slice ao (bs.length + 1) cap).ownBlock := fun e => by
                  rcases o3 with h | h
                  · exact HVp.out (e.trans h)
                  · have h2 : w2.heap.size + 1 = (w55.alloc (.cells #[.int .i64 a.1, .string (tx a.2.1), .bool a.2.2.1, .int .u64 a.2.2.2.1, .slice ap0 np0 cp0, .int .i64 k1, .string nm1, .bool fl1, .int .u64 u1, .slice ap1 np1 cp1, .slice ak1 nk1 ck1, .slice ab1 nb1 cb1, .slice aa1 na1 ca1] 56)).heap.size := Oi (e.trans h)
                    omega
                have hO9 := own_o o1 (set_grown w59 (w2.heap.size + 1) 7 (.slice ao (bs.length + 1) cap)) (fun g e e2 => hvn (e2.symm.trans e.symm))
                have hBf := hB9.set 7 (show 7 < 8 by decide) (.slice ao (bs.length + 1) cap)
                have hnw : ∀ g, g ≠ (w2.heap.size + 1) → (w59.setCell ⟨(w2.heap.size + 1), 7, none⟩ (.slice ao (bs.length + 1) cap)).heap[g]? = w59.heap[g]? := fun g h => Below.heap_setCell _ _ _ _ (by simp only; omega)
                have hlt9 : ∀ g, (Value.slice aa bs.length cc).ownBlock = some g → g < wr.heap.size := HLt.out
                have hlm : mS s3 < mS s' := HLT.out
                have hfu := HQ.out.1
                have hlq := HQ.out.2
                have hnv : ∀ g, g < w55.heap.size → some g ≠ (Value.slice aa bs.length cc).ownBlock → some g ≠ (Value.slice ao (bs.length + 1) cap).ownBlock := fun g h1 h2 e => by
                  rcases o3 with h | h
                  · exact h2 (e.trans h)
                  · have h3 : g = (w55.alloc (.cells #[.int .i64 a.1, .string (tx a.2.1), .bool a.2.2.1, .int .u64 a.2.2.2.1, .slice ap0 np0 cp0, .int .i64 k1, .string nm1, .bool fl1, .int .u64 u1, .slice ap1 np1 cp1, .slice ak1 nk1 ck1, .slice ab1 nb1 cb1, .slice aa1 na1 ca1] 56)).heap.size := Oi (e.trans h)
                    omega
                have hlo : ∀ g, g ≤ (w2.heap.size + 1) → some g ≠ (Value.slice aa bs.length cc).ownBlock := fun g h e => by have := hlow9 g e.symm; omega
                refine ⟨⟨s3, bs ++ [a], _, cs ++ [.int .i64 a.1, .string (tx a.2.1), .bool a.2.2.1, .int .u64 a.2.2.2.1, .slice ap0 np0 cp0, .int .i64 k1, .string nm1, .bool fl1, .int .u64 u1, .slice ap1 np1 cp1, .slice ak1 nk1 ck1, .slice ab1 nb1 cb1, .slice aa1 na1 ca1], fu', hP9, hG9, by omega, HN.out, by simp only [List.length_append, List.length_singleton]; omega, hBf, by simpa using hO9, ?_, hvn, by simp; omega, fun g h1 h2 => (hnw g (by omega)).trans ((o2.block g (by omega) (hlo g (by omega))).trans ((hy5.block g (by omega)).trans ((hg5.block g (by omega) (by simp; omega)).trans ((HG122.out.block g (by omega) (by simp; omega)).trans ((HG121.out.block g (by omega) (by simp; omega)).trans (HKw.out g h1 h2))))))⟩, by rw [hP9.m, HS0.out.m]; exact hlm⟩
                have hfar : ∀ g, w122.heap.size ≤ g → g < w55.heap.size → (W.heap.size ≤ g ∧ some g ≠ (Value.slice ao (bs.length + 1) cap).ownBlock ∧ g ≠ (w2.heap.size + 1)) ∧ (w59.setCell ⟨(w2.heap.size + 1), 7, none⟩ (.slice ao (bs.length + 1) cap)).heap[g]? = w55.heap[g]? := fun g h1 h2 => by
                  have hne : some g ≠ (Value.slice aa bs.length cc).ownBlock := fun e => by have := hlt9 g e.symm; omega
                  exact ⟨⟨by omega, hnv g h2 hne, by omega⟩, (hnw g (by omega)).trans ((o2.block g (by omega) hne).trans (hy5.block g h2))⟩
                refine AltsAt.snoc (HXb.out.move fun g hg lt => ?_) (hrow.move fun g hg lt => hfar g hg lt) (hat.move fun g hg lt => hfar g hg lt)
                exact ⟨⟨hg.1, hnv g (by omega) hg.2.1, hg.2.2⟩, (hnw g hg.2.2).trans ((o2.block g (by omega) hg.2.1).trans ((hy5.block g (by omega)).trans ((hg5.block g (by omega) (by have := hg.1; simp; omega)).trans ((HG122.out.block g (by omega) (by have := hg.1; simp; omega)).trans (HG121.out.block g lt (by have := hg.1; simp; omega))))))⟩
            · have hs' : seesL [59] s'.r = false := by simpa using hs
              rw [hs'] at hc
              have HC := Hd hc
              have HNs := Hd hs
              clear hc hs hs' ge
              go_wp2_with fail
              refine HC.out.mono ?_
              rintro e w121 ⟨rfl, hb⟩
              have HG121 := Hd (grown_of (b := b) hb)
              have hsz121 : wr.heap.size ≤ w121.heap.size := hb.size
              have H121 := Hd (Ai (H120.out.1.later hb) (Gt H120.out.2 HG121.out))
              clear HC hb
              replace HBq := Hd (boxw_grown HBq.out HG121.out (by omega))
              have HRn := Hd (own_kept HOb.out HG121.out (fun e => by have := HLw.out b e; omega))
              clear HOb
              have HOb := HRn
              clear HRn
              have hN := HM.out
              rw [more_no (fun h => HNs.out h.2)] at hN
              have HPw := Hd (show caseD (lastOf 1 T) (exprD (lastOf 1 T) k) s.next = (.mk 7 [] false 0 [] [x] [] bs, needD (lastOf 1 T) [125] (s')) from by rw [HPv.out, ← hN])
              clear hN HPv
              have HPv := HPw
              have HKs := Hd (Ks.refl W.heap.size (w2.heap.size + 1) wr)
              have HKn := Hd (HKs.out.trans (Ks.grown HG121.out (by omega)))
              clear HKs
              have HKs := HKn
              clear HKn
              go_wp2_with fail
              refine (dneed_any b T (s') [125] w121 H121.out.1).mono ?_
              rintro e w122 ⟨rfl, hP, hg⟩
              have HG122 := Hd hg
              have hsz122 : w121.heap.size ≤ w122.heap.size := hg.size
              have H122 := Hd (Ai hP (Gt H121.out.2 hg))
              clear hP hg
              replace HBq := Hd (boxw_grown HBq.out HG122.out (by omega))
              have HKn := Hd (HKs.out.trans (Ks.grown HG122.out (by omega)))
              clear HKs
              have HKs := HKn
              clear HKn
              have HRn := Hd (own_kept HOb.out HG122.out (fun e => by have := HLw.out b e; omega))
              clear HOb
              have HOb := HRn
              clear HRn
              obtain ⟨q0, q1, q2, q3, q4, q5, q6, q7⟩ := (HBq.out).q8
              have hBp := boxw_grown HX.out.2 H122.out.2 (by omega)
              obtain ⟨d0, d1, d2, d3, d4, d5, d6, d7⟩ := (hBp).q8
              obtain ⟨z0, z1, z2, z3, z4, z5, z6, z7⟩ := (hBp).z8
              have HBp := Hd hBp
              clear hBp
              go_wp2_with fail
              have hF := ((HBp.out).b8v (.int .i64 7) (.string ⟨#[]⟩) (.bool false) (.int .u64 0) (.slice none 0 0) (.slice (some ⟨w2.heap.size, 0, none⟩) 1 1) (.slice none 0 0) (.slice aa bs.length cc))
              have v0 := hF.1 0 _ rfl
              have v1 := hF.1 1 _ rfl
              have v2 := hF.1 2 _ rfl
              have v3 := hF.1 3 _ rfl
              have v4 := hF.1 4 _ rfl
              have v5 := hF.1 5 _ rfl
              have v6 := hF.1 6 _ rfl
              have v7 := hF.1 7 _ rfl
              refine bodyPost_ret (v := .agg #[.int .i64 7, .string ⟨#[]⟩, .bool false, .int .u64 0, .slice none 0 0, .slice (some ⟨w2.heap.size, 0, none⟩) 1 1, .slice none 0 0, .slice aa bs.length cc]) (by simp [results, Tryz.results128, go_sem, v0, v1, v2, v3, v4, v5, v6, v7]) rfl ?_
              rw [HPv.out]
              refine ⟨⟨_, _, _, _, _, _, _, _, rfl, .mk 7 [] false 0 [] [x] [] bs _ _ _ (.slice aa bs.length cc) [.int .i64 k0, .string nm, .bool f, .int .u64 u, .slice ap np cp, .slice ak nk ck, .slice ab nb cb, .slice a5 n5 c5] [] cs (RowAt.nil _ _ _ _) (HKd.out.move (fun g hg lt => ⟨(Nt (by omega) hg.1 : w.heap.size ≤ g), (((HKw.out.trans (((Kp.grown HG121.out (by omega) (by omega)).trans (Kp.grown HG122.out (by omega) (by omega)))))).trans ((Kp.s8 (Or.inl (by omega))))) g hg.1 hg.2⟩)) (RowAt.nil _ _ _ _) ((RowAt.own HOb.out).kp (lo' := w.heap.size) ((Kp.s8 (Or.inl (by omega)))) (by omega)) (ExsAt.cons x [] [.int .i64 k0, .string nm, .bool f, .int .u64 u, .slice ap np cp, .slice ak nk ck, .slice ab nb cb, .slice a5 n5 c5] [] (HAk.out.move (fun g hg lt => ⟨(Nt (by omega) hg.1 : w.heap.size ≤ g), (((HKw.out.trans (((Kp.grown HG121.out (by omega) (by omega)).trans (Kp.grown HG122.out (by omega) (by omega)))))).trans ((Kp.s8 (Or.inl (by omega))))) g hg.1 hg.2⟩)) .nil) .nil (HXb.out.move fun g hg lt => ⟨Nt (by omega) hg.1, (HKs.out.trans ((((((((Ks.set _ _ _ _ (Or.inr (by omega))).trans (Ks.set _ _ _ _ (Or.inr (by omega)))).trans (Ks.set _ _ _ _ (Or.inr (by omega)))).trans (Ks.set _ _ _ _ (Or.inr (by omega)))).trans (Ks.set _ _ _ _ (Or.inr (by omega)))).trans (Ks.set _ _ _ _ (Or.inr (by omega)))).trans (Ks.set _ _ _ _ (Or.inr (by omega)))).trans (Ks.set _ _ _ _ (Or.inr (by omega))))).2 g hg.1 hg.2.2 lt⟩)⟩, ((((((((H122.out.1).over hlt _).over hlt _).over hlt _).over hlt _).over hlt _).over hlt _).over hlt _).over hlt _, (grown_new (grown_new (grown_new (grown_new (grown_new (grown_new (grown_new (grown_new (Gt (grown_of (b := b) HX.out.1) H122.out.2) Nr _) Nr _) Nr _) Nr _) Nr _) Nr _) Nr _) Nr _)⟩
          · have f1 : (s'.e == 0) = false := by simp [ge]
            have HGe := Hd ge
            clear ge
            have hN := HM.out
            rw [more_no (fun h => HGe.out h.1)] at hN
            have HPw := Hd (show caseD (lastOf 1 T) (exprD (lastOf 1 T) k) s.next = (.mk 7 [] false 0 [] [x] [] bs, needD (lastOf 1 T) [125] (s')) from by rw [HPv.out, ← hN])
            clear hN HPv
            have HPv := HPw
            have HKs := Hd (Ks.refl W.heap.size (w2.heap.size + 1) wr)
            go_wp2_with fail
            refine (dneed_any b T (s') [125] wr H120.out.1).mono ?_
            rintro e w121 ⟨rfl, hP, hg⟩
            have HG121 := Hd hg
            have hsz121 : wr.heap.size ≤ w121.heap.size := hg.size
            have H121 := Hd (Ai hP (Gt H120.out.2 hg))
            clear hP hg
            replace HBq := Hd (boxw_grown HBq.out HG121.out (by omega))
            have HKn := Hd (HKs.out.trans (Ks.grown HG121.out (by omega)))
            clear HKs
            have HKs := HKn
            clear HKn
            have HRn := Hd (own_kept HOb.out HG121.out (fun e => by have := HLw.out b e; omega))
            clear HOb
            have HOb := HRn
            clear HRn
            obtain ⟨q0, q1, q2, q3, q4, q5, q6, q7⟩ := (HBq.out).q8
            have hBp := boxw_grown HX.out.2 H121.out.2 (by omega)
            obtain ⟨d0, d1, d2, d3, d4, d5, d6, d7⟩ := (hBp).q8
            obtain ⟨z0, z1, z2, z3, z4, z5, z6, z7⟩ := (hBp).z8
            have HBp := Hd hBp
            clear hBp
            go_wp2_with fail
            have hF := ((HBp.out).b8v (.int .i64 7) (.string ⟨#[]⟩) (.bool false) (.int .u64 0) (.slice none 0 0) (.slice (some ⟨w2.heap.size, 0, none⟩) 1 1) (.slice none 0 0) (.slice aa bs.length cc))
            have v0 := hF.1 0 _ rfl
            have v1 := hF.1 1 _ rfl
            have v2 := hF.1 2 _ rfl
            have v3 := hF.1 3 _ rfl
            have v4 := hF.1 4 _ rfl
            have v5 := hF.1 5 _ rfl
            have v6 := hF.1 6 _ rfl
            have v7 := hF.1 7 _ rfl
            refine bodyPost_ret (v := .agg #[.int .i64 7, .string ⟨#[]⟩, .bool false, .int .u64 0, .slice none 0 0, .slice (some ⟨w2.heap.size, 0, none⟩) 1 1, .slice none 0 0, .slice aa bs.length cc]) (by simp [results, Tryz.results128, go_sem, v0, v1, v2, v3, v4, v5, v6, v7]) rfl ?_
            rw [HPv.out]
            refine ⟨⟨_, _, _, _, _, _, _, _, rfl, .mk 7 [] false 0 [] [x] [] bs _ _ _ (.slice aa bs.length cc) [.int .i64 k0, .string nm, .bool f, .int .u64 u, .slice ap np cp, .slice ak nk ck, .slice ab nb cb, .slice a5 n5 c5] [] cs (RowAt.nil _ _ _ _) (HKd.out.move (fun g hg lt => ⟨(Nt (by omega) hg.1 : w.heap.size ≤ g), (((HKw.out.trans (Kp.grown HG121.out (by omega) (by omega)))).trans ((Kp.s8 (Or.inl (by omega))))) g hg.1 hg.2⟩)) (RowAt.nil _ _ _ _) ((RowAt.own HOb.out).kp (lo' := w.heap.size) ((Kp.s8 (Or.inl (by omega)))) (by omega)) (ExsAt.cons x [] [.int .i64 k0, .string nm, .bool f, .int .u64 u, .slice ap np cp, .slice ak nk ck, .slice ab nb cb, .slice a5 n5 c5] [] (HAk.out.move (fun g hg lt => ⟨(Nt (by omega) hg.1 : w.heap.size ≤ g), (((HKw.out.trans (Kp.grown HG121.out (by omega) (by omega)))).trans ((Kp.s8 (Or.inl (by omega))))) g hg.1 hg.2⟩)) .nil) .nil (HXb.out.move fun g hg lt => ⟨Nt (by omega) hg.1, (HKs.out.trans ((((((((Ks.set _ _ _ _ (Or.inr (by omega))).trans (Ks.set _ _ _ _ (Or.inr (by omega)))).trans (Ks.set _ _ _ _ (Or.inr (by omega)))).trans (Ks.set _ _ _ _ (Or.inr (by omega)))).trans (Ks.set _ _ _ _ (Or.inr (by omega)))).trans (Ks.set _ _ _ _ (Or.inr (by omega)))).trans (Ks.set _ _ _ _ (Or.inr (by omega)))).trans (Ks.set _ _ _ _ (Or.inr (by omega))))).2 g hg.1 hg.2.2 lt⟩)⟩, ((((((((H121.out.1).over hlt _).over hlt _).over hlt _).over hlt _).over hlt _).over hlt _).over hlt _).over hlt _, (grown_new (grown_new (grown_new (grown_new (grown_new (grown_new (grown_new (grown_new (Gt (grown_of (b := b) HX.out.1) H121.out.2) Nr _) Nr _) Nr _) Nr _) Nr _) Nr _) Nr _) Nr _)⟩
  · have f1 : (s2.e == 0) = false := by simp [ge]
    have HGs := Hd ge
    clear ge
    go_upto_region 8 with fail
    clear c2
    have HPv := Hd (HPv0.out.trans (if_neg (fun h => HGs.out h.1)))
    have HKk := Hd (show Kp W.heap.size (w2.heap.size + 1) w3 w5 from ((Kp.grown HG4.out (by omega) (by omega)).trans (Kp.grown HG5.out (by omega) (by omega))))
    have HCo := Hd (fun (W' : World) (hb : Below w5.heap.size w5 W') => dalt_any b T k hEx dd HD.out s2 W' (H5.out.1.later hb))
    have q7 : w5.cell? ⟨(w2.heap.size + 1), 7, none⟩ = some (.slice none 0 0) := HBq.out.1 7 _ rfl
    have HHn := Hd H5.out
    have HMb := Hd (alt_dec (lastOf 1 T) (ex := (exprD (lastOf 1 T) k)) (expr_mn k) s2)
    have HSM := Hd (show someD (altD (lastOf 1 T) (exprD (lastOf 1 T) k)) s2 = moreD (altD (lastOf 1 T) (exprD (lastOf 1 T) k)) (((altD (lastOf 1 T) (exprD (lastOf 1 T) k)) s2).2.r.length + 1) [((altD (lastOf 1 T) (exprD (lastOf 1 T) k)) s2).1] ((altD (lastOf 1 T) (exprD (lastOf 1 T) k)) s2).2 from rfl)
    have HVn : some (w2.heap.size + 1) ≠ (Value.slice none 0 0).ownBlock := fun e => by cases e
    have HVN := Hd HVn
    have hpN : (w2.heap.size + 1) < w5.heap.size := by omega
    clear HPv0 HVn
    generalize someD (altD (lastOf 1 T) (exprD (lastOf 1 T) k)) s2 = SM at *
    generalize (altD (lastOf 1 T) (exprD (lastOf 1 T) k)) s2 = Q at *
    obtain ⟨a, s3⟩ := Q
    go_region_law
      (first
        | (refine step_onto_alt rfl _ _ rfl (w55.alloc (.cells #[.int .i64 a.1, .string (tx a.2.1), .bool a.2.2.1, .int .u64 a.2.2.2.1, .slice ap0 np0 cp0, .int .i64 k1, .string nm1, .bool fl1, .int .u64 u1, .slice ap1 np1 cp1, .slice ak1 nk1 ck1, .slice ab1 nb1 cb1, .slice aa1 na1 ca1] 56)) ((w2.heap.size + 1) + 1) 0 (.slice none 0 0) [] rfl (World.ownsRow_nil _ _ _ _) w55.heap.size 1 [.int .i64 a.1, .string (tx a.2.1), .bool a.2.2.1, .int .u64 a.2.2.2.1, .slice ap0 np0 cp0, .int .i64 k1, .string nm1, .bool fl1, .int .u64 u1, .slice ap1 np1 cp1, .slice ak1 nk1 ck1, .slice ab1 nb1 cb1, .slice aa1 na1 ca1] _ rfl (own_built (cs := #[.int .i64 a.1, .string (tx a.2.1), .bool a.2.2.1, .int .u64 a.2.2.2.1, .slice ap0 np0 cp0, .int .i64 k1, .string nm1, .bool fl1, .int .u64 u1, .slice ap1 np1 cp1, .slice ak1 nk1 ck1, .slice ab1 nb1 cb1, .slice aa1 na1 ca1]) (heap_alloc_new _ _) Nr rfl (by decide)) HO1.out (by omega) HS6.out ?_; intro ao cap w59 hon; have hBx := boxw_o HB6.out hon.2.1 HVN.out; have qb7 := hBx.1 7 _ rfl; have zb7 := hBx.2 7; have H9 := Hd (Ai hon hBx); clear hon hBx)
        | (refine step_wanted rfl ?_; go_simp; go_at_call 149; refine (HCo.out _ (by first | exact Br | exact Br.drew | exact dbelow Br _)).mono ?_; rintro e w55 ⟨⟨vp0, k1, nm1, fl1, u1, vq, vk, vb, va, rfl, hrow, hat⟩, hP5, hg5'⟩; obtain ⟨ap0, np0, cp0, rfl⟩ := hrow.slice; obtain ⟨⟨ap1, np1, cp1, rfl⟩, ⟨ak1, nk1, ck1, rfl⟩, ⟨ab1, nb1, cb1, rfl⟩, ⟨aa1, na1, ca1, rfl⟩⟩ := hat.slices; have hg5 : w5.grownBy w55 (some b) := Gt (grown_of (by first | exact Br | exact Br.drew | exact dbelow Br _)) hg5'; have hB5 := boxw_grown HBq.out hg5 (by omega); have q7 := hB5.1 7 _ rfl; have hy5 := (Below.refl w55.heap.size w55).alloc Nr (.cells #[.int .i64 a.1, .string (tx a.2.1), .bool a.2.2.1, .int .u64 a.2.2.2.1, .slice ap0 np0 cp0, .int .i64 k1, .string nm1, .bool fl1, .int .u64 u1, .slice ap1 np1 cp1, .slice ak1 nk1 ck1, .slice ab1 nb1 cb1, .slice aa1 na1 ca1] 56); have qc7 := (hB5.below hy5).1 7 _ rfl; have HB6 := Hd (hB5.below hy5); have HO1 := Hd (show ∀ zz ∈ ([.int .i64 a.1, .string (tx a.2.1), .bool a.2.2.1, .int .u64 a.2.2.2.1, .slice ap0 np0 cp0, .int .i64 k1, .string nm1, .bool fl1, .int .u64 u1, .slice ap1 np1 cp1, .slice ak1 nk1 ck1, .slice ab1 nb1 cb1, .slice aa1 na1 ca1] : List Value), zz.oneCell' = true by intro z hz; simp at hz; rcases hz with rfl | rfl | rfl | rfl | rfl | rfl | rfl | rfl | rfl | rfl | rfl | rfl | rfl <;> rfl); have hs5 : w5.heap.size ≤ w55.heap.size := hg5.size; have HS6 := Hd (show (w2.heap.size + 1) + 1 ≤ (w55.alloc (.cells #[.int .i64 a.1, .string (tx a.2.1), .bool a.2.2.1, .int .u64 a.2.2.2.1, .slice ap0 np0 cp0, .int .i64 k1, .string nm1, .bool fl1, .int .u64 u1, .slice ap1 np1 cp1, .slice ak1 nk1 ck1, .slice ab1 nb1 cb1, .slice aa1 na1 ca1] 56)).heap.size by have := hy5.size; omega); have H6 := Hd (Ai (show PAt w55 b T s3 from hP5) (Ai hg5 (Ai (show RowAt w55 (fun g => w5.heap.size ≤ g) 9 1 (.slice ap0 np0 cp0) a.2.2.2.2.1.length (namesV a.2.2.2.2.1) from hrow) (Ai (show ExAt w55 (fun g => w5.heap.size ≤ g) a.2.2.2.2.2 _ from hat) hy5)))); clear hP5 hg5 hg5' hrow hat hy5 hB5))
    all_goals
      go_upto_region 9 with fail
      obtain ⟨⟨o1, o2, o3⟩, hB9⟩ := H9.out
      obtain ⟨hP5, hg5, hrow, hat, hy5⟩ := H6.out
      have hs5 := hg5.size
      have hs6 := hy5.size
      have hlow9 : ∀ g, (Value.slice none 0 0).ownBlock = some g → (w2.heap.size + 1) + 1 ≤ g := fun g e => by cases e
      obtain ⟨q, hq, hg9⟩ := grown_some (b := b) o2 (fun g e => by have := hlow9 g e; omega)
      have hs9 := hg9.size
      have hP9 := ((hP5.later hy5).past hg9 hq).over (p := (w2.heap.size + 1)) (i := 7) (by omega) (.slice ao (0 + 1) cap)
      have hG9 := grown_new (grown_past (Gt HHn.out.2 (Gt hg5 (grown_of hy5))) o2 (fun g e => by have := hlow9 g e; omega)) (p := (w2.heap.size + 1)) (i := 7) (by omega) (.slice ao (0 + 1) cap)
      have hvn : some (w2.heap.size + 1) ≠ (Value.slice ao (0 + 1) cap).ownBlock := fun e => by
        rcases o3 with h | h
        · exact HVN.out (e.trans h)
        · have h2 : w2.heap.size + 1 = (w55.alloc (.cells #[.int .i64 a.1, .string (tx a.2.1), .bool a.2.2.1, .int .u64 a.2.2.2.1, .slice ap0 np0 cp0, .int .i64 k1, .string nm1, .bool fl1, .int .u64 u1, .slice ap1 np1 cp1, .slice ak1 nk1 ck1, .slice ab1 nb1 cb1, .slice aa1 na1 ca1] 56)).heap.size := Oi (e.trans h)
          omega
      have hO9 := own_o o1 (set_grown w59 (w2.heap.size + 1) 7 (.slice ao (0 + 1) cap)) (fun g e e2 => hvn (e2.symm.trans e.symm))
      have hBf := hB9.set 7 (show 7 < 8 by decide) (.slice ao (0 + 1) cap)
      have hnw : ∀ g, g ≠ (w2.heap.size + 1) → (w59.setCell ⟨(w2.heap.size + 1), 7, none⟩ (.slice ao (0 + 1) cap)).heap[g]? = w59.heap[g]? := fun g h => Below.heap_setCell _ _ _ _ (by simp only; omega)
      have hfar : ∀ g, w5.heap.size ≤ g → g < w55.heap.size → (W.heap.size ≤ g ∧ some g ≠ (Value.slice ao (0 + 1) cap).ownBlock ∧ g ≠ (w2.heap.size + 1)) ∧ (w59.setCell ⟨(w2.heap.size + 1), 7, none⟩ (.slice ao (0 + 1) cap)).heap[g]? = w55.heap[g]? := fun g h1 h2 => by
        have hne : some g ≠ (Value.slice none 0 0).ownBlock := fun e => by cases e
        refine ⟨⟨by omega, fun e => ?_, by omega⟩, (hnw g (by omega)).trans ((o2.block g (by omega) hne).trans (hy5.block g h2))⟩
        rcases o3 with h | h
        · exact hne (e.trans h)
        · have h3 : g = (w55.alloc (.cells #[.int .i64 a.1, .string (tx a.2.1), .bool a.2.2.1, .int .u64 a.2.2.2.1, .slice ap0 np0 cp0, .int .i64 k1, .string nm1, .bool fl1, .int .u64 u1, .slice ap1 np1 cp1, .slice ak1 nk1 ck1, .slice ab1 nb1 cb1, .slice aa1 na1 ca1] 56)).heap.size := Oi (e.trans h)
          omega
      have HBL := Hd (show BoxW (w59.setCell ⟨(w2.heap.size + 1), 7, none⟩ (.slice ao (0 + 1) cap)) (w2.heap.size + 1) [.int .i64 7, .string ⟨#[]⟩, .bool false, .int .u64 0, .slice none 0 0, .slice (some ⟨w2.heap.size, 0, none⟩) 1 1, .slice none 0 0, .slice ao (0 + 1) cap] from hBf)
      have HOL := Hd (show (w59.setCell ⟨(w2.heap.size + 1), 7, none⟩ (.slice ao (0 + 1) cap)).ownsRow ((w2.heap.size + 1) + 1) 56 13 (.slice ao (0 + 1) cap) 1 [.int .i64 a.1, .string (tx a.2.1), .bool a.2.2.1, .int .u64 a.2.2.2.1, .slice ap0 np0 cp0, .int .i64 k1, .string nm1, .bool fl1, .int .u64 u1, .slice ap1 np1 cp1, .slice ak1 nk1 ck1, .slice ab1 nb1 cb1, .slice aa1 na1 ca1] by simpa using hO9)
      have HXL := Hd (show AltsAt (w59.setCell ⟨(w2.heap.size + 1), 7, none⟩ (.slice ao (0 + 1) cap)) (fun g => W.heap.size ≤ g ∧ some g ≠ (.slice ao (0 + 1) cap : Value).ownBlock ∧ g ≠ (w2.heap.size + 1)) [a] [.int .i64 a.1, .string (tx a.2.1), .bool a.2.2.1, .int .u64 a.2.2.2.1, .slice ap0 np0 cp0, .int .i64 k1, .string nm1, .bool fl1, .int .u64 u1, .slice ap1 np1 cp1, .slice ak1 nk1 ck1, .slice ab1 nb1 cb1, .slice aa1 na1 ca1] from AltsAt.cons a.1 a.2.1 a.2.2.1 a.2.2.2.1 a.2.2.2.2.1 a.2.2.2.2.2 [] (.slice ap0 np0 cp0) [.int .i64 k1, .string nm1, .bool fl1, .int .u64 u1, .slice ap1 np1 cp1, .slice ak1 nk1 ck1, .slice ab1 nb1 cb1, .slice aa1 na1 ca1] [] (hrow.move fun g hg lt => hfar g hg lt) (hat.move fun g hg lt => hfar g hg lt) .nil)
      have HPL := Hd (Ai hP9 hG9)
      have HVL := Hd hvn
      have HKL := Hd (show Kp W.heap.size (w2.heap.size + 1) w3 (w59.setCell ⟨(w2.heap.size + 1), 7, none⟩ (.slice ao (0 + 1) cap)) from fun g h1 h2 => (hnw g (by omega)).trans ((o2.block g (by omega) (fun e => by cases e)).trans ((hy5.block g (by omega)).trans ((hg5.block g (by omega) (by simp; omega)).trans (HKk.out g h1 h2)))))
      have hszL : (w2.heap.size + 1) < (w59.setCell ⟨(w2.heap.size + 1), 7, none⟩ (.slice ao (0 + 1) cap)).heap.size := by simp; omega
      clear o1 o2 o3 hB9 hP5 hg5 hrow hat hy5 hs5 hs6 hlow9 hg9 hs9 hP9 hG9 hvn hO9 hBf hnw hfar hq
      generalize (w59.setCell ⟨(w2.heap.size + 1), 7, none⟩ (.slice ao (0 + 1) cap)) = WL at *
      go_loopw [] (fun wr => ∃ (s' : St) (bs : List Alt) (vb : Value) (cs : List Value) (fu : Nat), PAt wr b T s' ∧ W.grownBy wr (some b) ∧ mS s' ≤ fu ∧ moreD (altD (lastOf 1 T) (exprD (lastOf 1 T) k)) fu bs s' = SM ∧ (bs.length + mS s' ≤ mS s2 ∨ mS s' = 0) ∧ BoxW wr (w2.heap.size + 1) [.int .i64 7, .string ⟨#[]⟩, .bool false, .int .u64 0, .slice none 0 0, .slice (some ⟨w2.heap.size, 0, none⟩) 1 1, .slice none 0 0, vb] ∧ wr.ownsRow ((w2.heap.size + 1) + 1) 56 13 vb bs.length cs ∧ AltsAt wr (fun g => W.heap.size ≤ g ∧ some g ≠ (vb : Value).ownBlock ∧ g ≠ (w2.heap.size + 1)) bs cs ∧ some (w2.heap.size + 1) ≠ vb.ownBlock ∧ WL.heap.size ≤ wr.heap.size ∧ Kp W.heap.size (w2.heap.size + 1) w3 wr) (fun wr => stM T.length b wr)
      case atStart => exact ⟨s3, [a], _, _, _, HPL.out.1, HPL.out.2, by unfold mS; split <;> omega, HSM.out.symm, by have h : mS s3 < mS s2 ∨ mS s3 = 0 := HMb.out; simp only [List.length_singleton]; omega, HBL.out, HOL.out, HXL.out, HVL.out, Nat.le_refl _, HKL.out⟩
      case round =>
        obtain ⟨s', bs, vb, cs, fu, hP, hg, hfu, hN, hn, hB, hown, hbt, hvp, hsL, hkw⟩ := hrel
        obtain ⟨aa, cc, rfl, hlow⟩ := own_shape hown
        have c2 := hP.c2
        have HS0 := Hd hP
        have HBq := Hd hB
        have HOb := Hd hown
        have HXb := Hd hbt
        have HVp := Hd hvp
        have HLw := Hd hlow
        have HKw := Hd hkw
        have HLt := Hd (show ∀ g, (Value.slice aa bs.length cc).ownBlock = some g → g < wr.heap.size from fun g e => (hown.lt g e).2)
        have H120 := Hd (Ai hP hg)
        have HQ := Hd (Ai hfu hn)
        have HM := Hd hN
        have hpr : (w2.heap.size + 1) < wr.heap.size := by omega
        clear hP hg hfu hN hn hB hown hbt hvp hlow hkw
        by_cases ge : s'.e = 0
        · have f1 : (s'.e == 0) = true := by simp [ge]
          have hc := dsees_any b T s' [59] wr H120.out.1
          by_cases hs : seesL [59] s'.r = true
          · rw [hs] at hc
            have hN := HM.out
            obtain ⟨fu', rfl⟩ : ∃ q, fu = q + 1 := ⟨fu - 1, by have := HQ.out.1; have := mS_alive ge; omega⟩
            rw [more_go ge hs] at hN
            have HN := Hd hN
            have HNE2 := Hd (sees_ne hs)
            have HGE := Hd ge
            have HC := Hd hc
            clear hN hc hs ge
            go_wp2_with fail
            refine HC.out.mono ?_
            rintro e w121 ⟨rfl, hb⟩
            have HG121 := Hd (grown_of (b := b) hb)
            have hsz121 : wr.heap.size ≤ w121.heap.size := hb.size
            have H121 := Hd (Ai (H120.out.1.later hb) (Gt H120.out.2 HG121.out))
            clear HC hb
            replace HBq := Hd (boxw_grown HBq.out HG121.out (by omega))
            obtain ⟨i, hiT, hir, c1⟩ := H121.out.1.c1
            have y1 := H121.out.1.z 1
            have hTn := HT0.out
            have ej : IntKind.i64.wrap ((i : Int) + 1) = (i : Int) + 1 := by rw [IntKind.wrap_i64]; omega
            have hP9 := H121.out.1.next c1 HNE2.out
            have hgs := set_grown w121 b 1 (.int .i64 ((i : Int) + 1))
            have H122 := Hd (Ai hP9 (Gt H121.out.2 hgs))
            have HG122 := Hd hgs
            have hsz122 : w121.heap.size ≤ (w121.setCell ⟨b, 1, none⟩ (.int .i64 ((i : Int) + 1))).heap.size := by simp
            clear hir hiT hP9 hgs
            go_wp2_with fail
            generalize (w121.setCell ⟨b, 1, none⟩ (.int .i64 ((i : Int) + 1))) = w122 at *
            clear c1 y1
            replace HBq := Hd (boxw_grown HBq.out HG122.out (by omega))
            have HOn := Hd (own_kept HOb.out (Gt HG121.out HG122.out) (fun e => by have := HLw.out b e; omega))
            have HCo := Hd (fun (W' : World) (hb : Below w122.heap.size w122 W') => dalt_any b T k hEx dd HD.out s'.next W' (H122.out.1.later hb))
            have q7 : w122.cell? ⟨(w2.heap.size + 1), 7, none⟩ = some (.slice aa bs.length cc) := HBq.out.1 7 _ rfl
            have hm1 := mS_alive HGE.out
            have hnm : bs.length + 1 ≤ 100000 := by have := HQ.out.2; have := HMs.out; omega
            have HLT := Hd (show mS ((altD (lastOf 1 T) (exprD (lastOf 1 T) k)) s'.next).2 < mS s' by have h1 := alt_dec (lastOf 1 T) (ex := (exprD (lastOf 1 T) k)) (expr_mn k) s'.next; have h2 := next_mn s'; omega)
            have HHm := Hd H122.out
            clear hm1
            generalize (altD (lastOf 1 T) (exprD (lastOf 1 T) k)) s'.next = Q at *
            obtain ⟨a, s3⟩ := Q
            go_region_law
              (first
                | (refine step_onto_alt rfl _ _ rfl (w55.alloc (.cells #[.int .i64 a.1, .string (tx a.2.1), .bool a.2.2.1, .int .u64 a.2.2.2.1, .slice ap0 np0 cp0, .int .i64 k1, .string nm1, .bool fl1, .int .u64 u1, .slice ap1 np1 cp1, .slice ak1 nk1 ck1, .slice ab1 nb1 cb1, .slice aa1 na1 ca1] 56)) ((w2.heap.size + 1) + 1) bs.length (.slice aa bs.length cc) cs rfl HO6.out w55.heap.size 1 [.int .i64 a.1, .string (tx a.2.1), .bool a.2.2.1, .int .u64 a.2.2.2.1, .slice ap0 np0 cp0, .int .i64 k1, .string nm1, .bool fl1, .int .u64 u1, .slice ap1 np1 cp1, .slice ak1 nk1 ck1, .slice ab1 nb1 cb1, .slice aa1 na1 ca1] _ rfl (own_built (cs := #[.int .i64 a.1, .string (tx a.2.1), .bool a.2.2.1, .int .u64 a.2.2.2.1, .slice ap0 np0 cp0, .int .i64 k1, .string nm1, .bool fl1, .int .u64 u1, .slice ap1 np1 cp1, .slice ak1 nk1 ck1, .slice ab1 nb1 cb1, .slice aa1 na1 ca1]) (heap_alloc_new _ _) Nr rfl (by decide)) HO1.out (by omega) HS6.out ?_; intro ao cap w59 hon; have hBx := boxw_o HB6.out hon.2.1 HVp.out; have qb7 := hBx.1 7 _ rfl; have zb7 := hBx.2 7; have H9 := Hd (Ai hon hBx); clear hon hBx)
                | (refine step_wanted rfl ?_; go_simp; go_at_call 149; refine (HCo.out _ (by first | exact Br | exact Br.drew | exact dbelow Br _)).mono ?_; rintro e w55 ⟨⟨vp0, k1, nm1, fl1, u1, vq, vk, vb, va, rfl, hrow, hat⟩, hP5, hg5'⟩; obtain ⟨ap0, np0, cp0, rfl⟩ := hrow.slice; obtain ⟨⟨ap1, np1, cp1, rfl⟩, ⟨ak1, nk1, ck1, rfl⟩, ⟨ab1, nb1, cb1, rfl⟩, ⟨aa1, na1, ca1, rfl⟩⟩ := hat.slices; have hg5 : w122.grownBy w55 (some b) := Gt (grown_of (by first | exact Br | exact Br.drew | exact dbelow Br _)) hg5'; have hB5 := boxw_grown HBq.out hg5 (by omega); have q7 := hB5.1 7 _ rfl; have hy5 := (Below.refl w55.heap.size w55).alloc Nr (.cells #[.int .i64 a.1, .string (tx a.2.1), .bool a.2.2.1, .int .u64 a.2.2.2.1, .slice ap0 np0 cp0, .int .i64 k1, .string nm1, .bool fl1, .int .u64 u1, .slice ap1 np1 cp1, .slice ak1 nk1 ck1, .slice ab1 nb1 cb1, .slice aa1 na1 ca1] 56); have qc7 := (hB5.below hy5).1 7 _ rfl; have HB6 := Hd (hB5.below hy5); have HO6 := Hd (own_below (own_kept HOn.out hg5 (fun e => by have := HLw.out b e; omega)) hy5); have HO1 := Hd (show ∀ zz ∈ ([.int .i64 a.1, .string (tx a.2.1), .bool a.2.2.1, .int .u64 a.2.2.2.1, .slice ap0 np0 cp0, .int .i64 k1, .string nm1, .bool fl1, .int .u64 u1, .slice ap1 np1 cp1, .slice ak1 nk1 ck1, .slice ab1 nb1 cb1, .slice aa1 na1 ca1] : List Value), zz.oneCell' = true by intro z hz; simp at hz; rcases hz with rfl | rfl | rfl | rfl | rfl | rfl | rfl | rfl | rfl | rfl | rfl | rfl | rfl <;> rfl); have hs5 : w122.heap.size ≤ w55.heap.size := hg5.size; have HS6 := Hd (show (w2.heap.size + 1) + 1 ≤ (w55.alloc (.cells #[.int .i64 a.1, .string (tx a.2.1), .bool a.2.2.1, .int .u64 a.2.2.2.1, .slice ap0 np0 cp0, .int .i64 k1, .string nm1, .bool fl1, .int .u64 u1, .slice ap1 np1 cp1, .slice ak1 nk1 ck1, .slice ab1 nb1 cb1, .slice aa1 na1 ca1] 56)).heap.size by have := hy5.size; omega); have H6 := Hd (Ai (show PAt w55 b T s3 from hP5) (Ai hg5 (Ai (show RowAt w55 (fun g => w122.heap.size ≤ g) 9 1 (.slice ap0 np0 cp0) a.2.2.2.2.1.length (namesV a.2.2.2.2.1) from hrow) (Ai (show ExAt w55 (fun g => w122.heap.size ≤ g) a.2.2.2.2.2 _ from hat) hy5)))); clear hP5 hg5 hg5' hrow hat hy5 hB5))
            all_goals
              go_wp2_with fail
              obtain ⟨⟨o1, o2, o3⟩, hB9⟩ := H9.out
              obtain ⟨hP5, hg5, hrow, hat, hy5⟩ := H6.out
              have hs5 := hg5.size
              have hs6 := hy5.size
              have hlow9 : ∀ g, (Value.slice aa bs.length cc).ownBlock = some g → (w2.heap.size + 1) + 1 ≤ g := HLw.out
              obtain ⟨q, hq, hg9⟩ := grown_some (b := b) o2 (fun g e => by have := hlow9 g e; omega)
              have hs9 := hg9.size
              have hP9 := ((hP5.later hy5).past hg9 hq).over (p := (w2.heap.size + 1)) (i := 7) (by omega) (.slice ao (bs.length + 1) cap)
              have hG9 := grown_new (grown_past (Gt HHm.out.2 (Gt hg5 (grown_of hy5))) o2 (fun g e => by have := hlow9 g e; omega)) (p := (w2.heap.size + 1)) (i := 7) (by omega) (.slice ao (bs.length + 1) cap)
              have hvn : some (w2.heap.size + 1) ≠ (Value.slice ao (bs.length + 1) cap).ownBlock := fun e => by
                rcases o3 with h | h
                · exact HVp.out (e.trans h)
                · have h2 : w2.heap.size + 1 = (w55.alloc (.cells #[.int .i64 a.1, .string (tx a.2.1), .bool a.2.2.1, .int .u64 a.2.2.2.1, .slice ap0 np0 cp0, .int .i64 k1, .string nm1, .bool fl1, .int .u64 u1, .slice ap1 np1 cp1, .slice ak1 nk1 ck1, .slice ab1 nb1 cb1, .slice aa1 na1 ca1] 56)).heap.size := Oi (e.trans h)
                  omega
              have hO9 := own_o o1 (set_grown w59 (w2.heap.size + 1) 7 (.slice ao (bs.length + 1) cap)) (fun g e e2 => hvn (e2.symm.trans e.symm))
              have hBf := hB9.set 7 (show 7 < 8 by decide) (.slice ao (bs.length + 1) cap)
              have hnw : ∀ g, g ≠ (w2.heap.size + 1) → (w59.setCell ⟨(w2.heap.size + 1), 7, none⟩ (.slice ao (bs.length + 1) cap)).heap[g]? = w59.heap[g]? := fun g h => Below.heap_setCell _ _ _ _ (by simp only; omega)
              have hlt9 : ∀ g, (Value.slice aa bs.length cc).ownBlock = some g → g < wr.heap.size := HLt.out
              have hlm : mS s3 < mS s' := HLT.out
              have hfu := HQ.out.1
              have hlq := HQ.out.2
              have hnv : ∀ g, g < w55.heap.size → some g ≠ (Value.slice aa bs.length cc).ownBlock → some g ≠ (Value.slice ao (bs.length + 1) cap).ownBlock := fun g h1 h2 e => by
                rcases o3 with h | h
                · exact h2 (e.trans h)
                · have h3 : g = (w55.alloc (.cells #[.int .i64 a.1, .string (tx a.2.1), .bool a.2.2.1, .int .u64 a.2.2.2.1, .slice ap0 np0 cp0, .int .i64 k1, .string nm1, .bool fl1, .int .u64 u1, .slice ap1 np1 cp1, .slice ak1 nk1 ck1, .slice ab1 nb1 cb1, .slice aa1 na1 ca1] 56)).heap.size := Oi (e.trans h)
                  omega
              have hlo : ∀ g, g ≤ (w2.heap.size + 1) → some g ≠ (Value.slice aa bs.length cc).ownBlock := fun g h e => by have := hlow9 g e.symm; omega
              refine ⟨⟨s3, bs ++ [a], _, cs ++ [.int .i64 a.1, .string (tx a.2.1), .bool a.2.2.1, .int .u64 a.2.2.2.1, .slice ap0 np0 cp0, .int .i64 k1, .string nm1, .bool fl1, .int .u64 u1, .slice ap1 np1 cp1, .slice ak1 nk1 ck1, .slice ab1 nb1 cb1, .slice aa1 na1 ca1], fu', hP9, hG9, by omega, HN.out, by simp only [List.length_append, List.length_singleton]; omega, hBf, by simpa using hO9, ?_, hvn, by simp; omega, fun g h1 h2 => (hnw g (by omega)).trans ((o2.block g (by omega) (hlo g (by omega))).trans ((hy5.block g (by omega)).trans ((hg5.block g (by omega) (by simp; omega)).trans ((HG122.out.block g (by omega) (by simp; omega)).trans ((HG121.out.block g (by omega) (by simp; omega)).trans (HKw.out g h1 h2))))))⟩, by rw [hP9.m, HS0.out.m]; exact hlm⟩
              have hfar : ∀ g, w122.heap.size ≤ g → g < w55.heap.size → (W.heap.size ≤ g ∧ some g ≠ (Value.slice ao (bs.length + 1) cap).ownBlock ∧ g ≠ (w2.heap.size + 1)) ∧ (w59.setCell ⟨(w2.heap.size + 1), 7, none⟩ (.slice ao (bs.length + 1) cap)).heap[g]? = w55.heap[g]? := fun g h1 h2 => by
                have hne : some g ≠ (Value.slice aa bs.length cc).ownBlock := fun e => by have := hlt9 g e.symm; omega
                exact ⟨⟨by omega, hnv g h2 hne, by omega⟩, (hnw g (by omega)).trans ((o2.block g (by omega) hne).trans (hy5.block g h2))⟩
              refine AltsAt.snoc (HXb.out.move fun g hg lt => ?_) (hrow.move fun g hg lt => hfar g hg lt) (hat.move fun g hg lt => hfar g hg lt)
              exact ⟨⟨hg.1, hnv g (by omega) hg.2.1, hg.2.2⟩, (hnw g hg.2.2).trans ((o2.block g (by omega) hg.2.1).trans ((hy5.block g (by omega)).trans ((hg5.block g (by omega) (by have := hg.1; simp; omega)).trans ((HG122.out.block g (by omega) (by have := hg.1; simp; omega)).trans (HG121.out.block g lt (by have := hg.1; simp; omega))))))⟩
          · have hs' : seesL [59] s'.r = false := by simpa using hs
            rw [hs'] at hc
            have HC := Hd hc
            have HNs := Hd hs
            clear hc hs hs' ge
            go_wp2_with fail
            refine HC.out.mono ?_
            rintro e w121 ⟨rfl, hb⟩
            have HG121 := Hd (grown_of (b := b) hb)
            have hsz121 : wr.heap.size ≤ w121.heap.size := hb.size
            have H121 := Hd (Ai (H120.out.1.later hb) (Gt H120.out.2 HG121.out))
            clear HC hb
            replace HBq := Hd (boxw_grown HBq.out HG121.out (by omega))
            have HRn := Hd (own_kept HOb.out HG121.out (fun e => by have := HLw.out b e; omega))
            clear HOb
            have HOb := HRn
            clear HRn
            have hN := HM.out
            rw [more_no (fun h => HNs.out h.2)] at hN
            have HPw := Hd (show caseD (lastOf 1 T) (exprD (lastOf 1 T) k) s.next = (.mk 7 [] false 0 [] [x] [] bs, needD (lastOf 1 T) [125] (s')) from by rw [HPv.out, ← hN])
            clear hN HPv
            have HPv := HPw
            have HKs := Hd (Ks.refl W.heap.size (w2.heap.size + 1) wr)
            have HKn := Hd (HKs.out.trans (Ks.grown HG121.out (by omega)))
            clear HKs
            have HKs := HKn
            clear HKn
            go_wp2_with fail
            refine (dneed_any b T (s') [125] w121 H121.out.1).mono ?_
            rintro e w122 ⟨rfl, hP, hg⟩
            have HG122 := Hd hg
            have hsz122 : w121.heap.size ≤ w122.heap.size := hg.size
            have H122 := Hd (Ai hP (Gt H121.out.2 hg))
            clear hP hg
            replace HBq := Hd (boxw_grown HBq.out HG122.out (by omega))
            have HKn := Hd (HKs.out.trans (Ks.grown HG122.out (by omega)))
            clear HKs
            have HKs := HKn
            clear HKn
            have HRn := Hd (own_kept HOb.out HG122.out (fun e => by have := HLw.out b e; omega))
            clear HOb
            have HOb := HRn
            clear HRn
            obtain ⟨q0, q1, q2, q3, q4, q5, q6, q7⟩ := (HBq.out).q8
            have hBp := boxw_grown HX.out.2 H122.out.2 (by omega)
            obtain ⟨d0, d1, d2, d3, d4, d5, d6, d7⟩ := (hBp).q8
            obtain ⟨z0, z1, z2, z3, z4, z5, z6, z7⟩ := (hBp).z8
            have HBp := Hd hBp
            clear hBp
            go_wp2_with fail
            have hF := ((HBp.out).b8v (.int .i64 7) (.string ⟨#[]⟩) (.bool false) (.int .u64 0) (.slice none 0 0) (.slice (some ⟨w2.heap.size, 0, none⟩) 1 1) (.slice none 0 0) (.slice aa bs.length cc))
            have v0 := hF.1 0 _ rfl
            have v1 := hF.1 1 _ rfl
            have v2 := hF.1 2 _ rfl
            have v3 := hF.1 3 _ rfl
            have v4 := hF.1 4 _ rfl
            have v5 := hF.1 5 _ rfl
            have v6 := hF.1 6 _ rfl
            have v7 := hF.1 7 _ rfl
            refine bodyPost_ret (v := .agg #[.int .i64 7, .string ⟨#[]⟩, .bool false, .int .u64 0, .slice none 0 0, .slice (some ⟨w2.heap.size, 0, none⟩) 1 1, .slice none 0 0, .slice aa bs.length cc]) (by simp [results, Tryz.results128, go_sem, v0, v1, v2, v3, v4, v5, v6, v7]) rfl ?_
            rw [HPv.out]
            refine ⟨⟨_, _, _, _, _, _, _, _, rfl, .mk 7 [] false 0 [] [x] [] bs _ _ _ (.slice aa bs.length cc) [.int .i64 k0, .string nm, .bool f, .int .u64 u, .slice ap np cp, .slice ak nk ck, .slice ab nb cb, .slice a5 n5 c5] [] cs (RowAt.nil _ _ _ _) (HKd.out.move (fun g hg lt => ⟨(Nt (by omega) hg.1 : w.heap.size ≤ g), (((HKw.out.trans (((Kp.grown HG121.out (by omega) (by omega)).trans (Kp.grown HG122.out (by omega) (by omega)))))).trans ((Kp.s8 (Or.inl (by omega))))) g hg.1 hg.2⟩)) (RowAt.nil _ _ _ _) ((RowAt.own HOb.out).kp (lo' := w.heap.size) ((Kp.s8 (Or.inl (by omega)))) (by omega)) (ExsAt.cons x [] [.int .i64 k0, .string nm, .bool f, .int .u64 u, .slice ap np cp, .slice ak nk ck, .slice ab nb cb, .slice a5 n5 c5] [] (HAk.out.move (fun g hg lt => ⟨(Nt (by omega) hg.1 : w.heap.size ≤ g), (((HKw.out.trans (((Kp.grown HG121.out (by omega) (by omega)).trans (Kp.grown HG122.out (by omega) (by omega)))))).trans ((Kp.s8 (Or.inl (by omega))))) g hg.1 hg.2⟩)) .nil) .nil (HXb.out.move fun g hg lt => ⟨Nt (by omega) hg.1, (HKs.out.trans ((((((((Ks.set _ _ _ _ (Or.inr (by omega))).trans (Ks.set _ _ _ _ (Or.inr (by omega)))).trans (Ks.set _ _ _ _ (Or.inr (by omega)))).trans (Ks.set _ _ _ _ (Or.inr (by omega)))).trans (Ks.set _ _ _ _ (Or.inr (by omega)))).trans (Ks.set _ _ _ _ (Or.inr (by omega)))).trans (Ks.set _ _ _ _ (Or.inr (by omega)))).trans (Ks.set _ _ _ _ (Or.inr (by omega))))).2 g hg.1 hg.2.2 lt⟩)⟩, ((((((((H122.out.1).over hlt _).over hlt _).over hlt _).over hlt _).over hlt _).over hlt _).over hlt _).over hlt _, (grown_new (grown_new (grown_new (grown_new (grown_new (grown_new (grown_new (grown_new (Gt (grown_of (b := b) HX.out.1) H122.out.2) Nr _) Nr _) Nr _) Nr _) Nr _) Nr _) Nr _) Nr _)⟩
        · have f1 : (s'.e == 0) = false := by simp [ge]
          have HGe := Hd ge
          clear ge
          have hN := HM.out
          rw [more_no (fun h => HGe.out h.1)] at hN
          have HPw := Hd (show caseD (lastOf 1 T) (exprD (lastOf 1 T) k) s.next = (.mk 7 [] false 0 [] [x] [] bs, needD (lastOf 1 T) [125] (s')) from by rw [HPv.out, ← hN])
          clear hN HPv
          have HPv := HPw
          have HKs := Hd (Ks.refl W.heap.size (w2.heap.size + 1) wr)
          go_wp2_with fail
          refine (dneed_any b T (s') [125] wr H120.out.1).mono ?_
          rintro e w121 ⟨rfl, hP, hg⟩
          have HG121 := Hd hg
          have hsz121 : wr.heap.size ≤ w121.heap.size := hg.size
          have H121 := Hd (Ai hP (Gt H120.out.2 hg))
          clear hP hg
          replace HBq := Hd (boxw_grown HBq.out HG121.out (by omega))
          have HKn := Hd (HKs.out.trans (Ks.grown HG121.out (by omega)))
          clear HKs
          have HKs := HKn
          clear HKn
          have HRn := Hd (own_kept HOb.out HG121.out (fun e => by have := HLw.out b e; omega))
          clear HOb
          have HOb := HRn
          clear HRn
          obtain ⟨q0, q1, q2, q3, q4, q5, q6, q7⟩ := (HBq.out).q8
          have hBp := boxw_grown HX.out.2 H121.out.2 (by omega)
          obtain ⟨d0, d1, d2, d3, d4, d5, d6, d7⟩ := (hBp).q8
          obtain ⟨z0, z1, z2, z3, z4, z5, z6, z7⟩ := (hBp).z8
          have HBp := Hd hBp
          clear hBp
          go_wp2_with fail
          have hF := ((HBp.out).b8v (.int .i64 7) (.string ⟨#[]⟩) (.bool false) (.int .u64 0) (.slice none 0 0) (.slice (some ⟨w2.heap.size, 0, none⟩) 1 1) (.slice none 0 0) (.slice aa bs.length cc))
          have v0 := hF.1 0 _ rfl
          have v1 := hF.1 1 _ rfl
          have v2 := hF.1 2 _ rfl
          have v3 := hF.1 3 _ rfl
          have v4 := hF.1 4 _ rfl
          have v5 := hF.1 5 _ rfl
          have v6 := hF.1 6 _ rfl
          have v7 := hF.1 7 _ rfl
          refine bodyPost_ret (v := .agg #[.int .i64 7, .string ⟨#[]⟩, .bool false, .int .u64 0, .slice none 0 0, .slice (some ⟨w2.heap.size, 0, none⟩) 1 1, .slice none 0 0, .slice aa bs.length cc]) (by simp [results, Tryz.results128, go_sem, v0, v1, v2, v3, v4, v5, v6, v7]) rfl ?_
          rw [HPv.out]
          refine ⟨⟨_, _, _, _, _, _, _, _, rfl, .mk 7 [] false 0 [] [x] [] bs _ _ _ (.slice aa bs.length cc) [.int .i64 k0, .string nm, .bool f, .int .u64 u, .slice ap np cp, .slice ak nk ck, .slice ab nb cb, .slice a5 n5 c5] [] cs (RowAt.nil _ _ _ _) (HKd.out.move (fun g hg lt => ⟨(Nt (by omega) hg.1 : w.heap.size ≤ g), (((HKw.out.trans (Kp.grown HG121.out (by omega) (by omega)))).trans ((Kp.s8 (Or.inl (by omega))))) g hg.1 hg.2⟩)) (RowAt.nil _ _ _ _) ((RowAt.own HOb.out).kp (lo' := w.heap.size) ((Kp.s8 (Or.inl (by omega)))) (by omega)) (ExsAt.cons x [] [.int .i64 k0, .string nm, .bool f, .int .u64 u, .slice ap np cp, .slice ak nk ck, .slice ab nb cb, .slice a5 n5 c5] [] (HAk.out.move (fun g hg lt => ⟨(Nt (by omega) hg.1 : w.heap.size ≤ g), (((HKw.out.trans (Kp.grown HG121.out (by omega) (by omega)))).trans ((Kp.s8 (Or.inl (by omega))))) g hg.1 hg.2⟩)) .nil) .nil (HXb.out.move fun g hg lt => ⟨Nt (by omega) hg.1, (HKs.out.trans ((((((((Ks.set _ _ _ _ (Or.inr (by omega))).trans (Ks.set _ _ _ _ (Or.inr (by omega)))).trans (Ks.set _ _ _ _ (Or.inr (by omega)))).trans (Ks.set _ _ _ _ (Or.inr (by omega)))).trans (Ks.set _ _ _ _ (Or.inr (by omega)))).trans (Ks.set _ _ _ _ (Or.inr (by omega)))).trans (Ks.set _ _ _ _ (Or.inr (by omega)))).trans (Ks.set _ _ _ _ (Or.inr (by omega))))).2 g hg.1 hg.2.2 lt⟩)⟩, ((((((((H121.out.1).over hlt _).over hlt _).over hlt _).over hlt _).over hlt _).over hlt _).over hlt _).over hlt _, (grown_new (grown_new (grown_new (grown_new (grown_new (grown_new (grown_new (grown_new (Gt (grown_of (b := b) HX.out.1) H121.out.2) Nr _) Nr _) Nr _) Nr _) Nr _) Nr _) Nr _) Nr _)⟩
end Go.Proofs.YthehgcmhcioffaaGreatDoor
