import Derived.Test.YtdjcdecbmeickaaGreatDoorMg11
import Derived.Test.YtdjcdecbmeickaaGreatDoorMg13
namespace Go.Proofs.YtdjcdecbmeickaaGreatDoor
set_option maxHeartbeats 64000000
set_option maxRecDepth 100000
open Go.RowKit Go.Lib
section
variable {ll : Int} {k : Nat} {s : St}
theorem expr_letD (he : s.e = 0) (h : seesL [108, 101, 116] s.r = true) : exprD ll (k + 1) s = letD ll (exprD ll k) s.next := by
  conv => lhs; unfold exprD
  rw [if_neg (fun h => h he), if_pos h]
theorem expr_caseD (he : s.e = 0) (h1 : seesL [108, 101, 116] s.r = false) (h : seesL [99, 97, 115, 101] s.r = true) : exprD ll (k + 1) s = caseD ll (exprD ll k) s.next := by
  conv => lhs; unfold exprD
  rw [if_neg (fun h => h he), if_neg (by rw [h1]; decide), if_pos h]
theorem expr_lamD (he : s.e = 0) (h1 : seesL [108, 101, 116] s.r = false) (h2 : seesL [99, 97, 115, 101] s.r = false) (h : seesL [92] s.r = true) : exprD ll (k + 1) s = lamD ll (exprD ll k) s.next := by
  conv => lhs; unfold exprD
  rw [if_neg (fun h => h he), if_neg (by rw [h1]; decide), if_neg (by rw [h2]; decide), if_pos h]
theorem expr_rowsD (he : s.e = 0) (h1 : seesL [108, 101, 116] s.r = false) (h2 : seesL [99, 97, 115, 101] s.r = false) (h : seesL [92] s.r = false) : exprD ll (k + 1) s = rowsD ll (exprD ll k) s := by
  conv => lhs; unfold exprD
  rw [if_neg (fun h => h he), if_neg (by rw [h1]; decide), if_neg (by rw [h2]; decide), if_neg (by rw [h]; decide)]
end
theorem dexpr_any (b : Nat) (T : List Tok) (k : Nat) (hEx : ExprDC b T k) (dd : Int) (hd : IntKind.i64.wrap (dd + 1) = 201 - (k : Int)) (hle : ¬ (200 : Int) < dd) (s : St) (hnl : s.e = 0 → seesL [108, 101, 116] s.r = false ∧ seesL [99, 97, 115, 101] s.r = false) (w : World) (hP : PAt w b T s) : Calls Tryz.prog 53 #[.pointer (some ⟨b, 0, none⟩), .int .i64 dd] w (DSaid b T (ExV w.heap.size) (exprD (lastOf 1 T) (k + 1) s) w) := by
  have hlt : b < w.heap.size := hP.lt
  have hx := (Below.refl w.heap.size w).alloc Nr (.cells #[.int .i64 0, .string ⟨#[]⟩, .bool false, .int .u64 0, .slice none 0 0, .slice none 0 0, .slice none 0 0, .slice none 0 0] 57)
  have HX := Hd (Ai hx (BoxW.alloc w #[.int .i64 0, .string ⟨#[]⟩, .bool false, .int .u64 0, .slice none 0 0, .slice none 0 0, .slice none 0 0, .slice none 0 0] 57))
  have H0 := Hd (Ai (hP.later hx) (grown_of (b := b) (Below.refl (w.alloc (.cells #[.int .i64 0, .string ⟨#[]⟩, .bool false, .int .u64 0, .slice none 0 0, .slice none 0 0, .slice none 0 0, .slice none 0 0] 57)).heap.size (w.alloc (.cells #[.int .i64 0, .string ⟨#[]⟩, .bool false, .int .u64 0, .slice none 0 0, .slice none 0 0, .slice none 0 0, .slice none 0 0] 57)))))
  have HT0 := Hd hP.n
  clear hx hP
  go_enter Tryz.func53, Tryz.ntmps53
  go_upto_region 1 with fail
  have hsz0 : w.heap.size + 1 ≤ (w.alloc (.cells #[.int .i64 0, .string ⟨#[]⟩, .bool false, .int .u64 0, .slice none 0 0, .slice none 0 0, .slice none 0 0, .slice none 0 0] 57)).heap.size := by simp
  generalize (w.alloc (.cells #[.int .i64 0, .string ⟨#[]⟩, .bool false, .int .u64 0, .slice none 0 0, .slice none 0 0, .slice none 0 0, .slice none 0 0] 57)) = W at *
  have c2 := H0.out.1.c2
  have HD := Hd hd
  by_cases ge : s.e = 0
  · have f0 : (s.e != 0) = false := by simp [ge]
    have HE0 := Hd ge
    clear ge
    have hc := dsees_any b T (s) [108, 101, 116] W H0.out.1
    have h1 := (hnl HE0.out).1
    have HNL := Hd (hnl HE0.out)
    clear hnl
    rw [h1] at hc
    have HC := Hd hc
    clear hc
    go_wp2_with fail
    refine HC.out.mono ?_
    rintro e w1 ⟨rfl, hb⟩
    have HG1 := Hd (grown_of (b := b) hb)
    have hsz1 : W.heap.size ≤ w1.heap.size := hb.size
    have H1 := Hd (Ai (H0.out.1.later hb) (Gt H0.out.2 HG1.out))
    clear HC hb
    have HL1 := Hd h1
    clear h1
    have hc := dsees_any b T (s) [99, 97, 115, 101] w1 H1.out.1
    have h1 := HNL.out.2
    rw [h1] at hc
    have HC := Hd hc
    clear hc
    go_wp2_with fail
    refine HC.out.mono ?_
    rintro e w2 ⟨rfl, hb⟩
    have HG2 := Hd (grown_of (b := b) hb)
    have hsz2 : w1.heap.size ≤ w2.heap.size := hb.size
    have H2 := Hd (Ai (H1.out.1.later hb) (Gt H1.out.2 HG2.out))
    clear HC hb
    have HL2 := Hd h1
    clear h1
    have hc := dsees_any b T (s) [92] w2 H2.out.1
    cases h1 : seesL [92] s.r with
    | true =>
      rw [h1] at hc
      have HC := Hd hc
      clear hc
      go_wp2_with fail
      refine HC.out.mono ?_
      rintro e w3 ⟨rfl, hb⟩
      have HG3 := Hd (grown_of (b := b) hb)
      have hsz3 : w2.heap.size ≤ w3.heap.size := hb.size
      have H3 := Hd (Ai (H2.out.1.later hb) (Gt H2.out.2 HG3.out))
      clear HC hb
      have HPu := Hd ((expr_lamD (ll := (lastOf 1 T)) (k := k) HE0.out HL1.out HL2.out h1).trans (show lamD (lastOf 1 T) (exprD (lastOf 1 T) k) s.next = (.mk 8 [] false 0 (namesD (lastOf 1 T) true s.next).1 [((exprD (lastOf 1 T) k) (needD (lastOf 1 T) [45, 62] (namesD (lastOf 1 T) true s.next).2)).1] [] [], ((exprD (lastOf 1 T) k) (needD (lastOf 1 T) [45, 62] (namesD (lastOf 1 T) true s.next).2)).2) from rfl))
      have HNE := Hd (sees_ne h1)
      clear h1
      obtain ⟨i, hiT, hir, c1⟩ := H3.out.1.c1
      have y1 := H3.out.1.z 1
      have hTn := HT0.out
      have ej : IntKind.i64.wrap ((i : Int) + 1) = (i : Int) + 1 := by rw [IntKind.wrap_i64]; omega
      have hP9 := H3.out.1.next c1 HNE.out
      have hgs := set_grown w3 b 1 (.int .i64 ((i : Int) + 1))
      have H4 := Hd (Ai hP9 (Gt H3.out.2 hgs))
      have HG4 := Hd hgs
      have hsz4 : w3.heap.size ≤ (w3.setCell ⟨b, 1, none⟩ (.int .i64 ((i : Int) + 1))).heap.size := by simp
      clear hir hiT hP9 hgs
      go_wp2_with fail
      generalize (w3.setCell ⟨b, 1, none⟩ (.int .i64 ((i : Int) + 1))) = w4 at *
      clear c1 y1
      refine (show Calls Tryz.prog 52 #[.pointer (some ⟨b, 0, none⟩), .int .i64 1] w4 (DSaid b T (NmsV w4.heap.size) (namesD (lastOf 1 T) true (s.next)) w4) from dnames_any b T (s.next) true w4 H4.out.1).mono ?_
      rintro e w5 ⟨⟨v, rfl, hown⟩, hP, hg⟩
      have HG5 := Hd hg
      have hsz5 : w4.heap.size ≤ w5.heap.size := hg.size
      have H5 := Hd (Ai hP (Gt H4.out.2 hg))
      clear hP hg
      obtain ⟨aN, cN, rfl, -⟩ := own_shape hown
      have HNo := Hd hown
      clear hown
      generalize namesD (lastOf 1 T) true (s.next) = Q at *
      obtain ⟨ns, s2⟩ := Q
      have HNl := Hd (show ∀ q, (Value.slice aN ns.length cN).ownBlock = some q → q < w5.heap.size from fun q e => (HNo.out.lt q e).2)
      have hy := (Below.refl w5.heap.size w5).alloc Nr (.cells #[.int .i64 8, .string ⟨#[]⟩, .bool false, .int .u64 0, .slice aN ns.length cN, .slice none 0 0, .slice none 0 0, .slice none 0 0] 57)
      have HBq := Hd (BoxW.alloc w5 #[.int .i64 8, .string ⟨#[]⟩, .bool false, .int .u64 0, .slice aN ns.length cN, .slice none 0 0, .slice none 0 0, .slice none 0 0] 57)
      have HG6 := Hd (grown_of (b := b) hy)
      have hsz6 : w5.heap.size + 1 ≤ (w5.alloc (.cells #[.int .i64 8, .string ⟨#[]⟩, .bool false, .int .u64 0, .slice aN ns.length cN, .slice none 0 0, .slice none 0 0, .slice none 0 0] 57)).heap.size := by simp
      have H6 := Hd (Ai (H5.out.1.later hy) (Gt H5.out.2 HG6.out))
      have HRn := Hd (own_below HNo.out hy)
      clear HNo
      have HNo := HRn
      clear HRn
      clear hy
      go_upto_region 22 with fail
      generalize (w5.alloc (.cells #[.int .i64 8, .string ⟨#[]⟩, .bool false, .int .u64 0, .slice aN ns.length cN, .slice none 0 0, .slice none 0 0, .slice none 0 0] 57)) = w6 at *
      go_wp2_with fail
      refine (dneed_any b T (s2) [45, 62] w6 H6.out.1).mono ?_
      rintro e w7 ⟨rfl, hP, hg⟩
      have HG7 := Hd hg
      have hsz7 : w6.heap.size ≤ w7.heap.size := hg.size
      have H7 := Hd (Ai hP (Gt H6.out.2 hg))
      clear hP hg
      replace HBq := Hd (boxw_grown HBq.out HG7.out (by omega))
      have HNn := Hd (own_kept HNo.out HG7.out (fun e => by have := (HNo.out.lt b e).1; omega))
      clear HNo
      have HNo := HNn
      clear HNn
      go_wp2_with fail
      refine (show Calls Tryz.prog 53 #[.pointer (some ⟨b, 0, none⟩), .int .i64 (201 - (k : Int))] w7 _ from hEx (needD (lastOf 1 T) [45, 62] (s2)) w7 H7.out.1).mono ?_
      rintro e w8 ⟨⟨k0, nm, f, u, vp, vk, vb, va, rfl, hat⟩, hP, hg⟩
      have HG8 := Hd hg
      have hsz8 : w7.heap.size ≤ w8.heap.size := hg.size
      have H8 := Hd (Ai hP (Gt H7.out.2 hg))
      clear hP hg
      obtain ⟨⟨ap, np, cp, rfl⟩, ⟨ak, nk, ck, rfl⟩, ⟨ab, nb, cb, rfl⟩, ⟨a5, n5, c5, rfl⟩⟩ := hat.slices
      have HAx := Hd hat
      clear hat
      generalize (exprD (lastOf 1 T) k) (needD (lastOf 1 T) [45, 62] (s2)) = Q at *
      obtain ⟨x, s3⟩ := Q
      replace HBq := Hd (boxw_grown HBq.out HG8.out (by omega))
      have HNn := Hd (own_kept HNo.out HG8.out (fun e => by have := (HNo.out.lt b e).1; omega))
      clear HNo
      have HNo := HNn
      clear HNn
      have hy := (Below.refl w8.heap.size w8).alloc Nr (.cells #[.int .i64 k0, .string nm, .bool f, .int .u64 u, .slice ap np cp, .slice ak nk ck, .slice ab nb cb, .slice a5 n5 c5] 57)
      replace HBq := Hd (HBq.out.below hy)
      have HKd := Hd (own_built (W := (w8.alloc (.cells #[.int .i64 k0, .string nm, .bool f, .int .u64 u, .slice ap np cp, .slice ak nk ck, .slice ab nb cb, .slice a5 n5 c5] 57))) (g := w8.heap.size) (base := w8.heap.size) (e := 57) (size := 8) (n := 1) (cs := #[.int .i64 k0, .string nm, .bool f, .int .u64 u, .slice ap np cp, .slice ak nk ck, .slice ab nb cb, .slice a5 n5 c5]) (heap_alloc_new _ _) Nr rfl (by decide))
      have HG9 := Hd (grown_of (b := b) hy)
      have hsz9 : w8.heap.size + 1 ≤ (w8.alloc (.cells #[.int .i64 k0, .string nm, .bool f, .int .u64 u, .slice ap np cp, .slice ak nk ck, .slice ab nb cb, .slice a5 n5 c5] 57)).heap.size := by simp
      have H9 := Hd (Ai (H8.out.1.later hy) (Gt H8.out.2 HG9.out))
      have HRn := Hd (own_below HNo.out hy)
      clear HNo
      have HNo := HRn
      clear HRn
      clear hy
      have q5 : (w8.alloc (.cells #[.int .i64 k0, .string nm, .bool f, .int .u64 u, .slice ap np cp, .slice ak nk ck, .slice ab nb cb, .slice a5 n5 c5] 57)).cell? ⟨w5.heap.size, 5, none⟩ = some _ := HBq.out.1 5 _ rfl
      have z5 : (w8.alloc (.cells #[.int .i64 k0, .string nm, .bool f, .int .u64 u, .slice ap np cp, .slice ak nk ck, .slice ab nb cb, .slice a5 n5 c5] 57)).frozen? ⟨w5.heap.size, 5, none⟩ = false := HBq.out.2 5
      go_upto_region 24 with fail
      generalize hWA : (w8.alloc (.cells #[.int .i64 k0, .string nm, .bool f, .int .u64 u, .slice ap np cp, .slice ak nk ck, .slice ab nb cb, .slice a5 n5 c5] 57)) = WA at *
      clear hWA
      have HBn := Hd (show BoxW (WA.setCell ⟨w5.heap.size, 5, none⟩ (.slice (some ⟨w8.heap.size, 0, none⟩) 1 1)) w5.heap.size [.int .i64 8, .string ⟨#[]⟩, .bool false, .int .u64 0, .slice aN ns.length cN, .slice (some ⟨w8.heap.size, 0, none⟩) 1 1, .slice none 0 0, .slice none 0 0] from (HBq.out).set 5 (show 5 < 8 by decide) (.slice (some ⟨w8.heap.size, 0, none⟩) 1 1))
      have H10 := Hd (Ai (show PAt (WA.setCell ⟨w5.heap.size, 5, none⟩ (.slice (some ⟨w8.heap.size, 0, none⟩) 1 1)) b T (s3) from (H9.out.1).over (show b < w5.heap.size by omega) _) (show W.grownBy (WA.setCell ⟨w5.heap.size, 5, none⟩ (.slice (some ⟨w8.heap.size, 0, none⟩) 1 1)) (some b) from (grown_new H9.out.2 (show W.heap.size ≤ w5.heap.size by omega) _)))
      have HK10 := Hd (show ∀ lo hi, w5.heap.size < lo → Kp lo hi WA (WA.setCell ⟨w5.heap.size, 5, none⟩ (.slice (some ⟨w8.heap.size, 0, none⟩) 1 1)) from fun lo hi h => (Kp.set _ _ _ _ (Or.inl h)))
      have hsz10 : WA.heap.size ≤ (WA.setCell ⟨w5.heap.size, 5, none⟩ (.slice (some ⟨w8.heap.size, 0, none⟩) 1 1)).heap.size := by simp
      have HRn := Hd (own_o HNo.out (set_grown _ w5.heap.size 5 (.slice (some ⟨w8.heap.size, 0, none⟩) 1 1)) (fun g e e2 => by have := HNl.out g e; have := Oi e2; omega))
      clear HNo
      have HNo := HRn
      clear HRn
      have HRn := Hd (own_o HKd.out (set_grown _ w5.heap.size 5 (.slice (some ⟨w8.heap.size, 0, none⟩) 1 1)) (fun g e e2 => by have := (HKd.out.lt g e).1; have := Oi e2; omega))
      clear HKd
      have HKd := HRn
      clear HRn
      clear HBq q5 z5
      have HBq := HBn
      clear HBn
      generalize (WA.setCell ⟨w5.heap.size, 5, none⟩ (.slice (some ⟨w8.heap.size, 0, none⟩) 1 1)) = w10 at *
      have HPv := Hd (show exprD (lastOf 1 T) (k + 1) s = (.mk 8 [] false 0 ns [x] [] [], s3) from HPu.out)
      obtain ⟨q0, q1, q2, q3, q4, q5, q6, q7⟩ := (HBq.out).q8
      have hBp := boxw_grown HX.out.2 H10.out.2 (by omega)
      obtain ⟨d0, d1, d2, d3, d4, d5, d6, d7⟩ := (hBp).q8
      obtain ⟨z0, z1, z2, z3, z4, z5, z6, z7⟩ := (hBp).z8
      have HBp := Hd hBp
      clear hBp
      go_wp2_with fail
      have hF := ((HBp.out).b8v (.int .i64 8) (.string ⟨#[]⟩) (.bool false) (.int .u64 0) (.slice aN ns.length cN) (.slice (some ⟨w8.heap.size, 0, none⟩) 1 1) (.slice none 0 0) (.slice none 0 0))
      have v0 := hF.1 0 _ rfl
      have v1 := hF.1 1 _ rfl
      have v2 := hF.1 2 _ rfl
      have v3 := hF.1 3 _ rfl
      have v4 := hF.1 4 _ rfl
      have v5 := hF.1 5 _ rfl
      have v6 := hF.1 6 _ rfl
      have v7 := hF.1 7 _ rfl
      refine bodyPost_ret (v := .agg #[.int .i64 8, .string ⟨#[]⟩, .bool false, .int .u64 0, .slice aN ns.length cN, .slice (some ⟨w8.heap.size, 0, none⟩) 1 1, .slice none 0 0, .slice none 0 0]) (by simp [results, Tryz.results53, go_sem, v0, v1, v2, v3, v4, v5, v6, v7]) rfl ?_
      rw [HPv.out]
      refine ⟨⟨_, _, _, _, _, _, _, _, rfl, .mk 8 [] false 0 ns [x] [] [] (.slice aN ns.length cN) _ _ _ [.int .i64 k0, .string nm, .bool f, .int .u64 u, .slice ap np cp, .slice ak nk ck, .slice ab nb cb, .slice a5 n5 c5] [] [] ((RowAt.own HNo.out).kp (lo' := w.heap.size) ((Kp.s8 (Or.inl (by omega)))) (by omega)) ((RowAt.own HKd.out).kp (lo' := w.heap.size) ((Kp.s8 (Or.inl (by omega)))) (by omega)) (RowAt.nil _ _ _ _) (RowAt.nil _ _ _ _) (ExsAt.cons x [] [.int .i64 k0, .string nm, .bool f, .int .u64 u, .slice ap np cp, .slice ak nk ck, .slice ab nb cb, .slice a5 n5 c5] [] (HAx.out.kp (lo' := w.heap.size) ((((Kp.grown HG9.out (by omega) (by omega)).trans (HK10.out _ _ (by omega)))).trans ((Kp.s8 (Or.inl (by omega))))) (by omega)) .nil) .nil .nil⟩, ((((((((H10.out.1).over hlt _).over hlt _).over hlt _).over hlt _).over hlt _).over hlt _).over hlt _).over hlt _, (grown_new (grown_new (grown_new (grown_new (grown_new (grown_new (grown_new (grown_new (Gt (grown_of (b := b) HX.out.1) H10.out.2) Nr _) Nr _) Nr _) Nr _) Nr _) Nr _) Nr _) Nr _)⟩
    | false =>
      rw [h1] at hc
      have HC := Hd hc
      clear hc
      go_wp2_with fail
      refine HC.out.mono ?_
      rintro e w3 ⟨rfl, hb⟩
      have HG3 := Hd (grown_of (b := b) hb)
      have hsz3 : w2.heap.size ≤ w3.heap.size := hb.size
      have H3 := Hd (Ai (H2.out.1.later hb) (Gt H2.out.2 HG3.out))
      clear HC hb
      have HPu := Hd ((expr_rowsD (ll := (lastOf 1 T)) (k := k) HE0.out HL1.out HL2.out h1).trans (show rowsD (lastOf 1 T) (exprD (lastOf 1 T) k) s = if (rowD (lastOf 1 T) (exprD (lastOf 1 T) k) s).2.e = 0 ∧ kindL (rowD (lastOf 1 T) (exprD (lastOf 1 T) k) s).2.r = 4 then (.mk 5 (tokD (lastOf 1 T) 4 (rowD (lastOf 1 T) (exprD (lastOf 1 T) k) s).2).1.1.t false 0 [] [(rowD (lastOf 1 T) (exprD (lastOf 1 T) k) s).1, (rowD (lastOf 1 T) (exprD (lastOf 1 T) k) (tokD (lastOf 1 T) 4 (rowD (lastOf 1 T) (exprD (lastOf 1 T) k) s).2).2).1] [] [], (rowD (lastOf 1 T) (exprD (lastOf 1 T) k) (tokD (lastOf 1 T) 4 (rowD (lastOf 1 T) (exprD (lastOf 1 T) k) s).2).2).2) else rowD (lastOf 1 T) (exprD (lastOf 1 T) k) s from rfl))
      clear h1 c2
      have HC := Hd (drow_any b T k hEx dd HD.out s w3 H3.out.1)
      go_wp2_with fail
      refine HC.out.mono ?_
      rintro e w4 ⟨⟨k0, nm, f, u, vp, vk, vb, va, rfl, hat⟩, hP, hg⟩
      have HG4 := Hd hg
      have hsz4 : w3.heap.size ≤ w4.heap.size := hg.size
      have H4 := Hd (Ai hP (Gt H3.out.2 hg))
      clear HC hP hg
      obtain ⟨⟨ap, np, cp, rfl⟩, ⟨ak, nk, ck, rfl⟩, ⟨ab, nb, cb, rfl⟩, ⟨a5, n5, c5, rfl⟩⟩ := hat.slices
      have HAx := Hd hat
      clear hat
      generalize rowD (lastOf 1 T) (exprD (lastOf 1 T) k) s = Q at *
      obtain ⟨x, s1⟩ := Q
      simp only at *
      have hy := (Below.refl w4.heap.size w4).alloc Nr (.cells #[.int .i64 k0, .string nm, .bool f, .int .u64 u, .slice ap np cp, .slice ak nk ck, .slice ab nb cb, .slice a5 n5 c5] 57)
      have HBq := Hd (BoxW.alloc w4 #[.int .i64 k0, .string nm, .bool f, .int .u64 u, .slice ap np cp, .slice ak nk ck, .slice ab nb cb, .slice a5 n5 c5] 57)
      have HG5 := Hd (grown_of (b := b) hy)
      have hsz5 : w4.heap.size + 1 ≤ (w4.alloc (.cells #[.int .i64 k0, .string nm, .bool f, .int .u64 u, .slice ap np cp, .slice ak nk ck, .slice ab nb cb, .slice a5 n5 c5] 57)).heap.size := by simp
      have H5 := Hd (Ai (H4.out.1.later hy) (Gt H4.out.2 HG5.out))
      clear hy
      go_upto_region 26 with fail
      generalize (w4.alloc (.cells #[.int .i64 k0, .string nm, .bool f, .int .u64 u, .slice ap np cp, .slice ak nk ck, .slice ab nb cb, .slice a5 n5 c5] 57)) = w5 at *
      have c2 := H5.out.1.c2
      by_cases ge : s1.e = 0
      · have f1 : (s1.e == 0) = true := by simp [ge]
        have HC := Hd (dkind_any b T s1 w5 H5.out.1)
        go_wp2_with fail
        refine HC.out.mono ?_
        rintro e w6 ⟨rfl, hb⟩
        have HG6 := Hd (grown_of (b := b) hb)
        have hsz6 : w5.heap.size ≤ w6.heap.size := hb.size
        have H6 := Hd (Ai (H5.out.1.later hb) (Gt H5.out.2 HG6.out))
        clear HC hb
        replace HBq := Hd (boxw_grown HBq.out HG6.out (by omega))
        by_cases gk : kindL s1.r = 4
        · have kk : (kindL s1.r == 4) = true := by simp [gk]
          have HPw := Hd (HPu.out.trans (if_pos ⟨ge, gk⟩))
          clear ge gk HPu
          go_wp2_with fail
          refine (dtok_any b T (s1) 4 (by decide) w6 H6.out.1).mono ?_
          rintro e w7 ⟨hv, hP, hg⟩
          have HG7 := Hd hg
          have hsz7 : w6.heap.size ≤ w7.heap.size := hg.size
          have H7 := Hd (Ai hP (Gt H6.out.2 hg))
          clear hP hg
          unfold TokV at hv
          subst hv
          generalize tokD (lastOf 1 T) 4 (s1) = Q at *
          obtain ⟨y, s1⟩ := Q
          have hf1 := fun W => tok_field1 y.1.k (tx y.1.t) y.1.f y.1.x y.2 W
          have hf2 := fun W => tok_field2 y.1.k (tx y.1.t) y.1.f y.1.x y.2 W
          replace HBq := Hd (boxw_grown HBq.out HG7.out (by omega))
          clear hf2
          go_wp2_with fail
          obtain ⟨q0, q1, q2, q3, q4, q5, q6, q7⟩ := (HBq.out).q8
          have HC := Hd (fun (W' : World) (hb : Below w7.heap.size w7 W') => drow_any b T k hEx dd HD.out (s1) W' (H7.out.1.later hb))
          have HPt := Hd H7.out.2
          clear hf1
          go_region_with (go_at_call 78; refine (HC.out _ (by first | exact Br | exact Br.drew | exact dbelow Br _)).mono ?_; rintro e w9 ⟨⟨k9, nm9, f9, u9, vp, vk, vb, va, rfl, hat9⟩, hP9, hg9⟩; obtain ⟨⟨ap9, np9, cp9, rfl⟩, ⟨ak9, nk9, ck9, rfl⟩, ⟨ab9, nb9, cb9, rfl⟩, ⟨aa9, na9, ca9, rfl⟩⟩ := hat9.slices; have hgg : w7.grownBy w9 (some b) := Gt (grown_of (by first | exact Br | exact Br.drew | exact dbelow Br _)) hg9; have hB9 := boxw_grown HBq.out hgg (by omega); have r0 := hB9.1 0 _ rfl; have r1 := hB9.1 1 _ rfl; have r2 := hB9.1 2 _ rfl; have r3 := hB9.1 3 _ rfl; have r4 := hB9.1 4 _ rfl; have r5 := hB9.1 5 _ rfl; have r6 := hB9.1 6 _ rfl; have r7 := hB9.1 7 _ rfl; have hy9 := (Below.refl w9.heap.size w9).alloc Nr (.cells #[.int .i64 k0, .string nm, .bool f, .int .u64 u, .slice ap np cp, .slice ak nk ck, .slice ab nb cb, .slice a5 n5 c5, .int .i64 k9, .string nm9, .bool f9, .int .u64 u9, .slice ap9 np9 cp9, .slice ak9 nk9 ck9, .slice ab9 nb9 cb9, .slice aa9 na9 ca9] 57); have HY9 := Hd hy9; have hBp := (boxw_grown HX.out.2 (Gt HPt.out hgg) (by omega)).below hy9; have d0 : (w9.alloc (.cells #[.int .i64 k0, .string nm, .bool f, .int .u64 u, .slice ap np cp, .slice ak nk ck, .slice ab nb cb, .slice a5 n5 c5, .int .i64 k9, .string nm9, .bool f9, .int .u64 u9, .slice ap9 np9 cp9, .slice ak9 nk9 ck9, .slice ab9 nb9 cb9, .slice aa9 na9 ca9] 57)).cell? ⟨w.heap.size, 0, none⟩ = some _ := hBp.1 0 _ rfl; have z0 : (w9.alloc (.cells #[.int .i64 k0, .string nm, .bool f, .int .u64 u, .slice ap np cp, .slice ak nk ck, .slice ab nb cb, .slice a5 n5 c5, .int .i64 k9, .string nm9, .bool f9, .int .u64 u9, .slice ap9 np9 cp9, .slice ak9 nk9 ck9, .slice ab9 nb9 cb9, .slice aa9 na9 ca9] 57)).frozen? ⟨w.heap.size, 0, none⟩ = false := hBp.2 0; have d1 : (w9.alloc (.cells #[.int .i64 k0, .string nm, .bool f, .int .u64 u, .slice ap np cp, .slice ak nk ck, .slice ab nb cb, .slice a5 n5 c5, .int .i64 k9, .string nm9, .bool f9, .int .u64 u9, .slice ap9 np9 cp9, .slice ak9 nk9 ck9, .slice ab9 nb9 cb9, .slice aa9 na9 ca9] 57)).cell? ⟨w.heap.size, 1, none⟩ = some _ := hBp.1 1 _ rfl; have z1 : (w9.alloc (.cells #[.int .i64 k0, .string nm, .bool f, .int .u64 u, .slice ap np cp, .slice ak nk ck, .slice ab nb cb, .slice a5 n5 c5, .int .i64 k9, .string nm9, .bool f9, .int .u64 u9, .slice ap9 np9 cp9, .slice ak9 nk9 ck9, .slice ab9 nb9 cb9, .slice aa9 na9 ca9] 57)).frozen? ⟨w.heap.size, 1, none⟩ = false := hBp.2 1; have d2 : (w9.alloc (.cells #[.int .i64 k0, .string nm, .bool f, .int .u64 u, .slice ap np cp, .slice ak nk ck, .slice ab nb cb, .slice a5 n5 c5, .int .i64 k9, .string nm9, .bool f9, .int .u64 u9, .slice ap9 np9 cp9, .slice ak9 nk9 ck9, .slice ab9 nb9 cb9, .slice aa9 na9 ca9] 57)).cell? ⟨w.heap.size, 2, none⟩ = some _ := hBp.1 2 _ rfl; have z2 : (w9.alloc (.cells #[.int .i64 k0, .string nm, .bool f, .int .u64 u, .slice ap np cp, .slice ak nk ck, .slice ab nb cb, .slice a5 n5 c5, .int .i64 k9, .string nm9, .bool f9, .int .u64 u9, .slice ap9 np9 cp9, .slice ak9 nk9 ck9, .slice ab9 nb9 cb9, .slice aa9 na9 ca9] 57)).frozen? ⟨w.heap.size, 2, none⟩ = false := hBp.2 2; have d3 : (w9.alloc (.cells #[.int .i64 k0, .string nm, .bool f, .int .u64 u, .slice ap np cp, .slice ak nk ck, .slice ab nb cb, .slice a5 n5 c5, .int .i64 k9, .string nm9, .bool f9, .int .u64 u9, .slice ap9 np9 cp9, .slice ak9 nk9 ck9, .slice ab9 nb9 cb9, .slice aa9 na9 ca9] 57)).cell? ⟨w.heap.size, 3, none⟩ = some _ := hBp.1 3 _ rfl; have z3 : (w9.alloc (.cells #[.int .i64 k0, .string nm, .bool f, .int .u64 u, .slice ap np cp, .slice ak nk ck, .slice ab nb cb, .slice a5 n5 c5, .int .i64 k9, .string nm9, .bool f9, .int .u64 u9, .slice ap9 np9 cp9, .slice ak9 nk9 ck9, .slice ab9 nb9 cb9, .slice aa9 na9 ca9] 57)).frozen? ⟨w.heap.size, 3, none⟩ = false := hBp.2 3; have d4 : (w9.alloc (.cells #[.int .i64 k0, .string nm, .bool f, .int .u64 u, .slice ap np cp, .slice ak nk ck, .slice ab nb cb, .slice a5 n5 c5, .int .i64 k9, .string nm9, .bool f9, .int .u64 u9, .slice ap9 np9 cp9, .slice ak9 nk9 ck9, .slice ab9 nb9 cb9, .slice aa9 na9 ca9] 57)).cell? ⟨w.heap.size, 4, none⟩ = some _ := hBp.1 4 _ rfl; have z4 : (w9.alloc (.cells #[.int .i64 k0, .string nm, .bool f, .int .u64 u, .slice ap np cp, .slice ak nk ck, .slice ab nb cb, .slice a5 n5 c5, .int .i64 k9, .string nm9, .bool f9, .int .u64 u9, .slice ap9 np9 cp9, .slice ak9 nk9 ck9, .slice ab9 nb9 cb9, .slice aa9 na9 ca9] 57)).frozen? ⟨w.heap.size, 4, none⟩ = false := hBp.2 4; have d5 : (w9.alloc (.cells #[.int .i64 k0, .string nm, .bool f, .int .u64 u, .slice ap np cp, .slice ak nk ck, .slice ab nb cb, .slice a5 n5 c5, .int .i64 k9, .string nm9, .bool f9, .int .u64 u9, .slice ap9 np9 cp9, .slice ak9 nk9 ck9, .slice ab9 nb9 cb9, .slice aa9 na9 ca9] 57)).cell? ⟨w.heap.size, 5, none⟩ = some _ := hBp.1 5 _ rfl; have z5 : (w9.alloc (.cells #[.int .i64 k0, .string nm, .bool f, .int .u64 u, .slice ap np cp, .slice ak nk ck, .slice ab nb cb, .slice a5 n5 c5, .int .i64 k9, .string nm9, .bool f9, .int .u64 u9, .slice ap9 np9 cp9, .slice ak9 nk9 ck9, .slice ab9 nb9 cb9, .slice aa9 na9 ca9] 57)).frozen? ⟨w.heap.size, 5, none⟩ = false := hBp.2 5; have d6 : (w9.alloc (.cells #[.int .i64 k0, .string nm, .bool f, .int .u64 u, .slice ap np cp, .slice ak nk ck, .slice ab nb cb, .slice a5 n5 c5, .int .i64 k9, .string nm9, .bool f9, .int .u64 u9, .slice ap9 np9 cp9, .slice ak9 nk9 ck9, .slice ab9 nb9 cb9, .slice aa9 na9 ca9] 57)).cell? ⟨w.heap.size, 6, none⟩ = some _ := hBp.1 6 _ rfl; have z6 : (w9.alloc (.cells #[.int .i64 k0, .string nm, .bool f, .int .u64 u, .slice ap np cp, .slice ak nk ck, .slice ab nb cb, .slice a5 n5 c5, .int .i64 k9, .string nm9, .bool f9, .int .u64 u9, .slice ap9 np9 cp9, .slice ak9 nk9 ck9, .slice ab9 nb9 cb9, .slice aa9 na9 ca9] 57)).frozen? ⟨w.heap.size, 6, none⟩ = false := hBp.2 6; have d7 : (w9.alloc (.cells #[.int .i64 k0, .string nm, .bool f, .int .u64 u, .slice ap np cp, .slice ak nk ck, .slice ab nb cb, .slice a5 n5 c5, .int .i64 k9, .string nm9, .bool f9, .int .u64 u9, .slice ap9 np9 cp9, .slice ak9 nk9 ck9, .slice ab9 nb9 cb9, .slice aa9 na9 ca9] 57)).cell? ⟨w.heap.size, 7, none⟩ = some _ := hBp.1 7 _ rfl; have z7 : (w9.alloc (.cells #[.int .i64 k0, .string nm, .bool f, .int .u64 u, .slice ap np cp, .slice ak nk ck, .slice ab nb cb, .slice a5 n5 c5, .int .i64 k9, .string nm9, .bool f9, .int .u64 u9, .slice ap9 np9 cp9, .slice ak9 nk9 ck9, .slice ab9 nb9 cb9, .slice aa9 na9 ca9] 57)).frozen? ⟨w.heap.size, 7, none⟩ = false := hBp.2 7; have HBp := Hd hBp; have H9 := Hd (Ai (show PAt w9 b T (rowD (lastOf 1 T) (exprD (lastOf 1 T) k) (s1)).2 from hP9) (Ai hgg (show ExAt w9 (fun g => w7.heap.size ≤ g) (rowD (lastOf 1 T) (exprD (lastOf 1 T) k) (s1)).1 [.int .i64 k9, .string nm9, .bool f9, .int .u64 u9, .slice ap9 np9 cp9, .slice ak9 nk9 ck9, .slice ab9 nb9 cb9, .slice aa9 na9 ca9] from hat9))); have hsz9 : w7.heap.size ≤ w9.heap.size := hgg.size; clear hP9 hg9 hgg hB9 hat9 hy9 hBp)
          all_goals
            go_wp2_with fail
            have HPv := Hd (show exprD (lastOf 1 T) (k + 1) s = (.mk 5 y.1.t false 0 [] [x, (rowD (lastOf 1 T) (exprD (lastOf 1 T) k) (s1)).1] [] [], (rowD (lastOf 1 T) (exprD (lastOf 1 T) k) (s1)).2) from HPw.out)
            have hF := ((HBp.out).b8v (.int .i64 5) (.string (tx y.1.t)) (.bool false) (.int .u64 0) (.slice none 0 0) (.slice (some ⟨w9.heap.size, 0, none⟩) 2 2) (.slice none 0 0) (.slice none 0 0))
            have v0 := hF.1 0 _ rfl
            have v1 := hF.1 1 _ rfl
            have v2 := hF.1 2 _ rfl
            have v3 := hF.1 3 _ rfl
            have v4 := hF.1 4 _ rfl
            have v5 := hF.1 5 _ rfl
            have v6 := hF.1 6 _ rfl
            have v7 := hF.1 7 _ rfl
            refine bodyPost_ret (v := .agg #[.int .i64 5, .string (tx y.1.t), .bool false, .int .u64 0, .slice none 0 0, .slice (some ⟨w9.heap.size, 0, none⟩) 2 2, .slice none 0 0, .slice none 0 0]) (by simp [results, Tryz.results53, go_sem, v0, v1, v2, v3, v4, v5, v6, v7]) rfl ?_
            rw [HPv.out]
            have hszA : w9.heap.size ≤ (w9.alloc (.cells #[.int .i64 k0, .string nm, .bool f, .int .u64 u, .slice ap np cp, .slice ak nk ck, .slice ab nb cb, .slice a5 n5 c5, .int .i64 k9, .string nm9, .bool f9, .int .u64 u9, .slice ap9 np9 cp9, .slice ak9 nk9 ck9, .slice ab9 nb9 cb9, .slice aa9 na9 ca9] 57)).heap.size := HY9.out.size
            refine ⟨⟨_, _, _, _, _, _, _, _, rfl, ExAt.kids (xs := [x, (rowD (lastOf 1 T) (exprD (lastOf 1 T) k) (s1)).1]) 5 y.1.t ((RowAt.own (own_built (W := (w9.alloc (.cells #[.int .i64 k0, .string nm, .bool f, .int .u64 u, .slice ap np cp, .slice ak nk ck, .slice ab nb cb, .slice a5 n5 c5, .int .i64 k9, .string nm9, .bool f9, .int .u64 u9, .slice ap9 np9 cp9, .slice ak9 nk9 ck9, .slice ab9 nb9 cb9, .slice aa9 na9 ca9] 57))) (g := w9.heap.size) (base := w9.heap.size) (e := 57) (size := 8) (n := 2) (cs := #[.int .i64 k0, .string nm, .bool f, .int .u64 u, .slice ap np cp, .slice ak nk ck, .slice ab nb cb, .slice a5 n5 c5, .int .i64 k9, .string nm9, .bool f9, .int .u64 u9, .slice ap9 np9 cp9, .slice ak9 nk9 ck9, .slice ab9 nb9 cb9, .slice aa9 na9 ca9]) (heap_alloc_new _ _) Nr rfl (by decide))).kp (lo' := w.heap.size) ((Kp.s8 (Or.inl (by omega)))) (by omega)) (ExsAt.cons x _ [.int .i64 k0, .string nm, .bool f, .int .u64 u, .slice ap np cp, .slice ak nk ck, .slice ab nb cb, .slice a5 n5 c5] _ (HAx.out.kp (lo' := w.heap.size) (((((((Kp.grown HG5.out (by omega) (by omega)).trans (Kp.grown HG6.out (by omega) (by omega)))).trans (Kp.grown HG7.out (by omega) (by omega)))).trans (Kp.grown H9.out.2.1 (by omega) (by omega))).trans ((Kp.below HY9.out (by omega)).trans ((Kp.s8 (Or.inl (by omega)))))) (by omega)) (ExsAt.cons _ [] [.int .i64 k9, .string nm9, .bool f9, .int .u64 u9, .slice ap9 np9 cp9, .slice ak9 nk9 ck9, .slice ab9 nb9 cb9, .slice aa9 na9 ca9] [] (H9.out.2.2.kp (lo' := w.heap.size) ((Kp.below HY9.out (by omega)).trans ((Kp.s8 (Or.inl (by omega))))) (by omega)) .nil))⟩, (((((((((H9.out.1.later HY9.out)).over hlt _).over hlt _).over hlt _).over hlt _).over hlt _).over hlt _).over hlt _).over hlt _, (grown_new (grown_new (grown_new (grown_new (grown_new (grown_new (grown_new (grown_new (Gt (grown_of (b := b) HX.out.1) (Gt (Gt HPt.out H9.out.2.1) (grown_of (b := b) HY9.out))) Nr _) Nr _) Nr _) Nr _) Nr _) Nr _) Nr _) Nr _)⟩
        · have kk : (kindL s1.r == 4) = false := by simp [gk]
          have HNo4 := Hd (show ¬ (s1.e = 0 ∧ kindL s1.r = 4) from fun h => gk h.2)
          clear ge gk
          have HPv := Hd (show exprD (lastOf 1 T) (k + 1) s = (x, s1) from HPu.out.trans (if_neg HNo4.out))
          obtain ⟨q0, q1, q2, q3, q4, q5, q6, q7⟩ := (HBq.out).q8
          have hBp := boxw_grown HX.out.2 H6.out.2 (by omega)
          obtain ⟨d0, d1, d2, d3, d4, d5, d6, d7⟩ := (hBp).q8
          obtain ⟨z0, z1, z2, z3, z4, z5, z6, z7⟩ := (hBp).z8
          have HBp := Hd hBp
          clear hBp
          go_wp2_with fail
          have hF := ((HBp.out).b8v (.int .i64 k0) (.string nm) (.bool f) (.int .u64 u) (.slice ap np cp) (.slice ak nk ck) (.slice ab nb cb) (.slice a5 n5 c5))
          have v0 := hF.1 0 _ rfl
          have v1 := hF.1 1 _ rfl
          have v2 := hF.1 2 _ rfl
          have v3 := hF.1 3 _ rfl
          have v4 := hF.1 4 _ rfl
          have v5 := hF.1 5 _ rfl
          have v6 := hF.1 6 _ rfl
          have v7 := hF.1 7 _ rfl
          refine bodyPost_ret (v := .agg #[.int .i64 k0, .string nm, .bool f, .int .u64 u, .slice ap np cp, .slice ak nk ck, .slice ab nb cb, .slice a5 n5 c5]) (by simp [results, Tryz.results53, go_sem, v0, v1, v2, v3, v4, v5, v6, v7]) rfl ?_
          rw [HPv.out]
          refine ⟨⟨_, _, _, _, _, _, _, _, rfl, HAx.out.kp (lo' := w.heap.size) ((((Kp.grown HG5.out (by omega) (by omega)).trans (Kp.grown HG6.out (by omega) (by omega)))).trans ((Kp.s8 (Or.inl (by omega))))) (by omega)⟩, ((((((((H6.out.1).over hlt _).over hlt _).over hlt _).over hlt _).over hlt _).over hlt _).over hlt _).over hlt _, (grown_new (grown_new (grown_new (grown_new (grown_new (grown_new (grown_new (grown_new (Gt (grown_of (b := b) HX.out.1) H6.out.2) Nr _) Nr _) Nr _) Nr _) Nr _) Nr _) Nr _) Nr _)⟩
      · have f1 : (s1.e == 0) = false := by simp [ge]
        have HNo4 := Hd (show ¬ (s1.e = 0 ∧ kindL s1.r = 4) from fun h => ge h.1)
        clear ge
        have HPv := Hd (show exprD (lastOf 1 T) (k + 1) s = (x, s1) from HPu.out.trans (if_neg HNo4.out))
        obtain ⟨q0, q1, q2, q3, q4, q5, q6, q7⟩ := (HBq.out).q8
        have hBp := boxw_grown HX.out.2 H5.out.2 (by omega)
        obtain ⟨d0, d1, d2, d3, d4, d5, d6, d7⟩ := (hBp).q8
        obtain ⟨z0, z1, z2, z3, z4, z5, z6, z7⟩ := (hBp).z8
        have HBp := Hd hBp
        clear hBp
        go_wp2_with fail
        have hF := ((HBp.out).b8v (.int .i64 k0) (.string nm) (.bool f) (.int .u64 u) (.slice ap np cp) (.slice ak nk ck) (.slice ab nb cb) (.slice a5 n5 c5))
        have v0 := hF.1 0 _ rfl
        have v1 := hF.1 1 _ rfl
        have v2 := hF.1 2 _ rfl
        have v3 := hF.1 3 _ rfl
        have v4 := hF.1 4 _ rfl
        have v5 := hF.1 5 _ rfl
        have v6 := hF.1 6 _ rfl
        have v7 := hF.1 7 _ rfl
        refine bodyPost_ret (v := .agg #[.int .i64 k0, .string nm, .bool f, .int .u64 u, .slice ap np cp, .slice ak nk ck, .slice ab nb cb, .slice a5 n5 c5]) (by simp [results, Tryz.results53, go_sem, v0, v1, v2, v3, v4, v5, v6, v7]) rfl ?_
        rw [HPv.out]
        refine ⟨⟨_, _, _, _, _, _, _, _, rfl, HAx.out.kp (lo' := w.heap.size) ((Kp.grown HG5.out (by omega) (by omega)).trans ((Kp.s8 (Or.inl (by omega))))) (by omega)⟩, ((((((((H5.out.1).over hlt _).over hlt _).over hlt _).over hlt _).over hlt _).over hlt _).over hlt _).over hlt _, (grown_new (grown_new (grown_new (grown_new (grown_new (grown_new (grown_new (grown_new (Gt (grown_of (b := b) HX.out.1) H5.out.2) Nr _) Nr _) Nr _) Nr _) Nr _) Nr _) Nr _) Nr _)⟩
  · have f0 : (s.e != 0) = true := by simp [ge]
    have HPu := Hd (show exprD (lastOf 1 T) (k + 1) s = (blankX, s) by unfold exprD; rw [if_pos ge])
    clear ge hnl
    have hBp := boxw_grown HX.out.2 H0.out.2 (by omega)
    obtain ⟨d0, d1, d2, d3, d4, d5, d6, d7⟩ := (hBp).q8
    obtain ⟨z0, z1, z2, z3, z4, z5, z6, z7⟩ := (hBp).z8
    have HBp := Hd hBp
    clear hBp
    go_wp2_with fail
    have hF := ((HBp.out).b8v (.int .i64 0) (.string ⟨#[]⟩) (.bool false) (.int .u64 0) (.slice none 0 0) (.slice none 0 0) (.slice none 0 0) (.slice none 0 0))
    have v0 := hF.1 0 _ rfl
    have v1 := hF.1 1 _ rfl
    have v2 := hF.1 2 _ rfl
    have v3 := hF.1 3 _ rfl
    have v4 := hF.1 4 _ rfl
    have v5 := hF.1 5 _ rfl
    have v6 := hF.1 6 _ rfl
    have v7 := hF.1 7 _ rfl
    refine bodyPost_ret (v := .agg #[.int .i64 0, .string ⟨#[]⟩, .bool false, .int .u64 0, .slice none 0 0, .slice none 0 0, .slice none 0 0, .slice none 0 0]) (by simp [results, Tryz.results53, go_sem, v0, v1, v2, v3, v4, v5, v6, v7]) rfl ?_
    rw [HPu.out]
    refine ⟨⟨_, _, _, _, _, _, _, _, rfl, ExAt.leaf _ _ 0 []⟩, ((((((((H0.out.1).over hlt _).over hlt _).over hlt _).over hlt _).over hlt _).over hlt _).over hlt _).over hlt _, (grown_new (grown_new (grown_new (grown_new (grown_new (grown_new (grown_new (grown_new (Gt (grown_of (b := b) HX.out.1) H0.out.2) Nr _) Nr _) Nr _) Nr _) Nr _) Nr _) Nr _) Nr _)⟩
theorem more_go {α : Type} {item : Dp α} {fu : Nat} {acc : List α} {s : St} (he : s.e = 0) (hs : seesL [59] s.r = true) : moreD item (fu + 1) acc s = moreD item fu (acc ++ [(item s.next).1]) (item s.next).2 := by
  conv => lhs; unfold moreD
  exact if_pos ⟨he, hs⟩
theorem more_no {α : Type} {item : Dp α} {fu : Nat} {acc : List α} {s : St} (h : ¬ (s.e = 0 ∧ seesL [59] s.r = true)) : moreD item fu acc s = (acc, s) := by
  cases fu with
  | zero => rfl
  | succ fu =>
    conv => lhs; unfold moreD
    exact if_neg h
def Ks (lo p : Nat) (W W' : World) : Prop := W.heap.size ≤ W'.heap.size ∧ ∀ g, lo ≤ g → g ≠ p → g < W.heap.size → W'.heap[g]? = W.heap[g]?
theorem Ks.refl (lo p : Nat) (W : World) : Ks lo p W W := ⟨Nat.le_refl _, fun _ _ _ _ => rfl⟩
theorem Ks.trans {lo p : Nat} {W W' W'' : World} (h : Ks lo p W W') (h2 : Ks lo p W' W'') : Ks lo p W W'' := ⟨Nt h.1 h2.1, fun g a b c => (h2.2 g a b (Nat.lt_of_lt_of_le c h.1)).trans (h.2 g a b c)⟩
theorem Ks.grown {lo p b : Nat} {W W' : World} (hg : W.grownBy W' (some b)) (hb : b < lo) : Ks lo p W W' := ⟨hg.size, fun g h1 _ h3 => hg.block g h3 (by simp; omega)⟩
theorem Ks.below {lo p : Nat} {W W' : World} (hb : Below W.heap.size W W') : Ks lo p W W' := ⟨hb.size, fun g _ _ h3 => hb.block g h3⟩
theorem Ks.set {lo p : Nat} (W : World) (q i : Nat) (v : Value) (h : q = p ∨ q < lo) : Ks lo p W (W.setCell ⟨q, i, none⟩ v) := ⟨by simp, fun g h1 h2 _ => Below.heap_setCell _ _ _ _ (by simp only; omega)⟩
theorem dlet_any (b : Nat) (T : List Tok) (k : Nat) (hEx : ExprDC b T k) (dd : Int) (hd : IntKind.i64.wrap (dd + 1) = 201 - (k : Int)) (_ : True) (hle : ¬ (200 : Int) < dd) (s : St) (he : s.e = 0) (h1 : seesL [108, 101, 116] s.r = true) (w : World) (hP : PAt w b T s) : Calls Tryz.prog 53 #[.pointer (some ⟨b, 0, none⟩), .int .i64 dd] w (DSaid b T (ExV w.heap.size) (exprD (lastOf 1 T) (k + 1) s) w) := by
  have hlt : b < w.heap.size := hP.lt
  have hx := (Below.refl w.heap.size w).alloc Nr (.cells #[.int .i64 0, .string ⟨#[]⟩, .bool false, .int .u64 0, .slice none 0 0, .slice none 0 0, .slice none 0 0, .slice none 0 0] 57)
  have HX := Hd (Ai hx (BoxW.alloc w #[.int .i64 0, .string ⟨#[]⟩, .bool false, .int .u64 0, .slice none 0 0, .slice none 0 0, .slice none 0 0, .slice none 0 0] 57))
  have H0 := Hd (Ai (hP.later hx) (grown_of (b := b) (Below.refl (w.alloc (.cells #[.int .i64 0, .string ⟨#[]⟩, .bool false, .int .u64 0, .slice none 0 0, .slice none 0 0, .slice none 0 0, .slice none 0 0] 57)).heap.size (w.alloc (.cells #[.int .i64 0, .string ⟨#[]⟩, .bool false, .int .u64 0, .slice none 0 0, .slice none 0 0, .slice none 0 0, .slice none 0 0] 57)))))
  have HT0 := Hd hP.n
  clear hx hP
  go_enter Tryz.func53, Tryz.ntmps53
  go_upto_region 1 with fail
  have hsz0 : w.heap.size + 1 ≤ (w.alloc (.cells #[.int .i64 0, .string ⟨#[]⟩, .bool false, .int .u64 0, .slice none 0 0, .slice none 0 0, .slice none 0 0, .slice none 0 0] 57)).heap.size := by simp
  generalize (w.alloc (.cells #[.int .i64 0, .string ⟨#[]⟩, .bool false, .int .u64 0, .slice none 0 0, .slice none 0 0, .slice none 0 0, .slice none 0 0] 57)) = W at *
  have c2 := H0.out.1.c2
  have HD := Hd hd
  have HE0 := Hd he
  have f0 : (s.e != 0) = false := by simp [he]
  have hc := dsees_any b T (s) [108, 101, 116] W H0.out.1
  rw [h1] at hc
  have HC := Hd hc
  clear hc
  go_wp2_with fail
  refine HC.out.mono ?_
  rintro e w1 ⟨rfl, hb⟩
  have HG1 := Hd (grown_of (b := b) hb)
  have hsz1 : W.heap.size ≤ w1.heap.size := hb.size
  have H1 := Hd (Ai (H0.out.1.later hb) (Gt H0.out.2 HG1.out))
  clear HC hb
  have HPu := Hd ((expr_letD (ll := (lastOf 1 T)) (k := k) he h1).trans (show letD (lastOf 1 T) (exprD (lastOf 1 T) k) s.next = (.mk 6 [] false 0 [] [((exprD (lastOf 1 T) k) (needD (lastOf 1 T) [105, 110] (someD (bindD (lastOf 1 T) (exprD (lastOf 1 T) k)) s.next).2)).1] (someD (bindD (lastOf 1 T) (exprD (lastOf 1 T) k)) s.next).1 [], ((exprD (lastOf 1 T) k) (needD (lastOf 1 T) [105, 110] (someD (bindD (lastOf 1 T) (exprD (lastOf 1 T) k)) s.next).2)).2) from rfl))
  have HNE := Hd (sees_ne h1)
  clear h1 he
  obtain ⟨i, hiT, hir, c1⟩ := H1.out.1.c1
  have y1 := H1.out.1.z 1
  have hTn := HT0.out
  have ej : IntKind.i64.wrap ((i : Int) + 1) = (i : Int) + 1 := by rw [IntKind.wrap_i64]; omega
  have hP9 := H1.out.1.next c1 HNE.out
  have hgs := set_grown w1 b 1 (.int .i64 ((i : Int) + 1))
  have H2 := Hd (Ai hP9 (Gt H1.out.2 hgs))
  have HG2 := Hd hgs
  have hsz2 : w1.heap.size ≤ (w1.setCell ⟨b, 1, none⟩ (.int .i64 ((i : Int) + 1))).heap.size := by simp
  clear hir hiT hP9 hgs
  go_wp2_with fail
  generalize (w1.setCell ⟨b, 1, none⟩ (.int .i64 ((i : Int) + 1))) = w2 at *
  clear c1 y1
  have HMb := Hd (bind_lt (ll := (lastOf 1 T)) (ex := (exprD (lastOf 1 T) k)) (expr_mn k) (s := s.next) HE0.out)
  have HMs := Hd (show mS s.next ≤ 100000 by have h1 := next_lt HE0.out HNE.out; have h2 := mS_le H0.out.1; have := HT0.out; omega)
  have hsm : someD (bindD (lastOf 1 T) (exprD (lastOf 1 T) k)) s.next = moreD (bindD (lastOf 1 T) (exprD (lastOf 1 T) k)) (((bindD (lastOf 1 T) (exprD (lastOf 1 T) k)) s.next).2.r.length + 1) [((bindD (lastOf 1 T) (exprD (lastOf 1 T) k)) s.next).1] ((bindD (lastOf 1 T) (exprD (lastOf 1 T) k)) s.next).2 := rfl
  refine (dbind_any b T k hEx dd HD.out s.next w2 H2.out.1).mono ?_
  rintro e w3 ⟨⟨vp0, k1, nm1, f1, u1, vq, vk, vb, va, rfl, hrow, hat⟩, hP, hg⟩
  have HG3 := Hd hg
  have hsz3 : w2.heap.size ≤ w3.heap.size := hg.size
  have H3 := Hd (Ai hP (Gt H2.out.2 hg))
  clear hP hg
  obtain ⟨ap0, np0, cp0, rfl⟩ := hrow.slice
  obtain ⟨⟨ap1, np1, cp1, rfl⟩, ⟨ak1, nk1, ck1, rfl⟩, ⟨ab1, nb1, cb1, rfl⟩, ⟨aa1, na1, ca1, rfl⟩⟩ := hat.slices
  have HIt := Hd (Ai hrow hat)
  clear hrow hat
  generalize someD (bindD (lastOf 1 T) (exprD (lastOf 1 T) k)) s.next = SM at *
  generalize (bindD (lastOf 1 T) (exprD (lastOf 1 T) k)) s.next = Q at *
  obtain ⟨a, s1⟩ := Q
  simp only at *
  have HSM := Hd hsm
  clear hsm
  go_wp2_with fail
  have hy1 := (Below.refl w3.heap.size w3).alloc Nr (.cells #[.string (tx a.1), .slice ap0 np0 cp0, .int .i64 k1, .string nm1, .bool f1, .int .u64 u1, .slice ap1 np1 cp1, .slice ak1 nk1 ck1, .slice ab1 nb1 cb1, .slice aa1 na1 ca1] 59)
  have hy2 := (Below.refl (w3.alloc (.cells #[.string (tx a.1), .slice ap0 np0 cp0, .int .i64 k1, .string nm1, .bool f1, .int .u64 u1, .slice ap1 np1 cp1, .slice ak1 nk1 ck1, .slice ab1 nb1 cb1, .slice aa1 na1 ca1] 59)).heap.size (w3.alloc (.cells #[.string (tx a.1), .slice ap0 np0 cp0, .int .i64 k1, .string nm1, .bool f1, .int .u64 u1, .slice ap1 np1 cp1, .slice ak1 nk1 ck1, .slice ab1 nb1 cb1, .slice aa1 na1 ca1] 59))).alloc Nr (.cells #[.int .i64 6, .string ⟨#[]⟩, .bool false, .int .u64 0, .slice none 0 0, .slice none 0 0, .slice (some ⟨w3.heap.size, 0, none⟩) 1 1, .slice none 0 0] 57)
  have hy12 := onB' hy1 hy2
  have hszL : w3.heap.size + 2 ≤ ((w3.alloc (.cells #[.string (tx a.1), .slice ap0 np0 cp0, .int .i64 k1, .string nm1, .bool f1, .int .u64 u1, .slice ap1 np1 cp1, .slice ak1 nk1 ck1, .slice ab1 nb1 cb1, .slice aa1 na1 ca1] 59)).alloc (.cells #[.int .i64 6, .string ⟨#[]⟩, .bool false, .int .u64 0, .slice none 0 0, .slice none 0 0, .slice (some ⟨w3.heap.size, 0, none⟩) 1 1, .slice none 0 0] 57)).heap.size := by simp
  have HBL := Hd (show BoxW ((w3.alloc (.cells #[.string (tx a.1), .slice ap0 np0 cp0, .int .i64 k1, .string nm1, .bool f1, .int .u64 u1, .slice ap1 np1 cp1, .slice ak1 nk1 ck1, .slice ab1 nb1 cb1, .slice aa1 na1 ca1] 59)).alloc (.cells #[.int .i64 6, .string ⟨#[]⟩, .bool false, .int .u64 0, .slice none 0 0, .slice none 0 0, .slice (some ⟨w3.heap.size, 0, none⟩) 1 1, .slice none 0 0] 57)) (w3.heap.size + 1) [.int .i64 6, .string ⟨#[]⟩, .bool false, .int .u64 0, .slice none 0 0, .slice none 0 0, .slice (some ⟨w3.heap.size, 0, none⟩) 1 1, .slice none 0 0] by have h := BoxW.alloc (w3.alloc (.cells #[.string (tx a.1), .slice ap0 np0 cp0, .int .i64 k1, .string nm1, .bool f1, .int .u64 u1, .slice ap1 np1 cp1, .slice ak1 nk1 ck1, .slice ab1 nb1 cb1, .slice aa1 na1 ca1] 59)) #[.int .i64 6, .string ⟨#[]⟩, .bool false, .int .u64 0, .slice none 0 0, .slice none 0 0, .slice (some ⟨w3.heap.size, 0, none⟩) 1 1, .slice none 0 0] 57; rwa [World.size_alloc] at h)
  have HOL := Hd (show ((w3.alloc (.cells #[.string (tx a.1), .slice ap0 np0 cp0, .int .i64 k1, .string nm1, .bool f1, .int .u64 u1, .slice ap1 np1 cp1, .slice ak1 nk1 ck1, .slice ab1 nb1 cb1, .slice aa1 na1 ca1] 59)).alloc (.cells #[.int .i64 6, .string ⟨#[]⟩, .bool false, .int .u64 0, .slice none 0 0, .slice none 0 0, .slice (some ⟨w3.heap.size, 0, none⟩) 1 1, .slice none 0 0] 57)).ownsRow W.heap.size 59 10 (.slice (some ⟨w3.heap.size, 0, none⟩) 1 1) 1 [.string (tx a.1), .slice ap0 np0 cp0, .int .i64 k1, .string nm1, .bool f1, .int .u64 u1, .slice ap1 np1 cp1, .slice ak1 nk1 ck1, .slice ab1 nb1 cb1, .slice aa1 na1 ca1] from own_below (own_built (W := (w3.alloc (.cells #[.string (tx a.1), .slice ap0 np0 cp0, .int .i64 k1, .string nm1, .bool f1, .int .u64 u1, .slice ap1 np1 cp1, .slice ak1 nk1 ck1, .slice ab1 nb1 cb1, .slice aa1 na1 ca1] 59))) (g := w3.heap.size) (base := W.heap.size) (size := 10) (n := 1) (cs := #[.string (tx a.1), .slice ap0 np0 cp0, .int .i64 k1, .string nm1, .bool f1, .int .u64 u1, .slice ap1 np1 cp1, .slice ak1 nk1 ck1, .slice ab1 nb1 cb1, .slice aa1 na1 ca1]) (heap_alloc_new _ _) (by omega) rfl (by decide)) hy2)
  have HXL := Hd (show BndsAt ((w3.alloc (.cells #[.string (tx a.1), .slice ap0 np0 cp0, .int .i64 k1, .string nm1, .bool f1, .int .u64 u1, .slice ap1 np1 cp1, .slice ak1 nk1 ck1, .slice ab1 nb1 cb1, .slice aa1 na1 ca1] 59)).alloc (.cells #[.int .i64 6, .string ⟨#[]⟩, .bool false, .int .u64 0, .slice none 0 0, .slice none 0 0, .slice (some ⟨w3.heap.size, 0, none⟩) 1 1, .slice none 0 0] 57)) (fun g => W.heap.size ≤ g ∧ some g ≠ (.slice (some ⟨w3.heap.size, 0, none⟩) 1 1 : Value).ownBlock ∧ g ≠ (w3.heap.size + 1)) [a] [.string (tx a.1), .slice ap0 np0 cp0, .int .i64 k1, .string nm1, .bool f1, .int .u64 u1, .slice ap1 np1 cp1, .slice ak1 nk1 ck1, .slice ab1 nb1 cb1, .slice aa1 na1 ca1] from BndsAt.cons a.1 a.2.1 a.2.2 [] (.slice ap0 np0 cp0) _ [] (HIt.out.1.move fun g hg lt => ⟨⟨Nt (by omega) hg, fun e => by have h : g = w3.heap.size := Oi e; omega, by omega⟩, hy12.block g lt⟩) (HIt.out.2.move fun g hg lt => ⟨⟨Nt (by omega) hg, fun e => by have h : g = w3.heap.size := Oi e; omega, by omega⟩, hy12.block g lt⟩) .nil)
  have HPL := Hd (Ai (H3.out.1.later hy12) (Gt H3.out.2 (grown_of (b := b) hy12)))
  clear hy1 hy2 hy12
  generalize ((w3.alloc (.cells #[.string (tx a.1), .slice ap0 np0 cp0, .int .i64 k1, .string nm1, .bool f1, .int .u64 u1, .slice ap1 np1 cp1, .slice ak1 nk1 ck1, .slice ab1 nb1 cb1, .slice aa1 na1 ca1] 59)).alloc (.cells #[.int .i64 6, .string ⟨#[]⟩, .bool false, .int .u64 0, .slice none 0 0, .slice none 0 0, .slice (some ⟨w3.heap.size, 0, none⟩) 1 1, .slice none 0 0] 57)) = WL at *
  go_loopw [] (fun wr => ∃ (s' : St) (bs : List Bnd) (vb : Value) (cs : List Value) (fu : Nat), PAt wr b T s' ∧ W.grownBy wr (some b) ∧ mS s' ≤ fu ∧ moreD (bindD (lastOf 1 T) (exprD (lastOf 1 T) k)) fu bs s' = SM ∧ bs.length + mS s' ≤ mS s.next ∧ BoxW wr (w3.heap.size + 1) [.int .i64 6, .string ⟨#[]⟩, .bool false, .int .u64 0, .slice none 0 0, .slice none 0 0, vb, .slice none 0 0] ∧ wr.ownsRow W.heap.size 59 10 vb bs.length cs ∧ BndsAt wr (fun g => W.heap.size ≤ g ∧ some g ≠ (vb : Value).ownBlock ∧ g ≠ (w3.heap.size + 1)) bs cs ∧ some (w3.heap.size + 1) ≠ vb.ownBlock ∧ WL.heap.size ≤ wr.heap.size) (fun wr => stM T.length b wr)
  case atStart => exact ⟨s1, [a], _, _, _, HPL.out.1, HPL.out.2, by unfold mS; split <;> omega, HSM.out.symm, by have h : mS s1 < mS s.next := HMb.out; simp; omega, HBL.out, HOL.out, HXL.out, fun e => by have h : w3.heap.size + 1 = w3.heap.size := Oi e; omega, Nat.le_refl _⟩
  case round =>
    obtain ⟨s', bs, vb, cs, fu, hP, hg, hfu, hN, hn, hB, hown, hbt, hvp, hsL⟩ := hrel
    obtain ⟨aa, cc, rfl, hlow⟩ := own_shape hown
    have c2 := hP.c2
    have HS0 := Hd hP
    have HBq := Hd hB
    have HOb := Hd hown
    have HXb := Hd hbt
    have HVp := Hd hvp
    have HLw := Hd hlow
    have HLt := Hd (show ∀ g, (Value.slice aa bs.length cc).ownBlock = some g → g < wr.heap.size from fun g e => (hown.lt g e).2)
    have H20 := Hd (Ai hP hg)
    have HQ := Hd (Ai hfu hn)
    have HM := Hd hN
    have hpr : w3.heap.size + 1 < wr.heap.size := by omega
    clear hP hg hfu hN hn hB hown hbt hvp hlow
    by_cases ge : s'.e = 0
    · have f1 : (s'.e == 0) = true := by simp [ge]
      have hc := dsees_any b T s' [59] wr H20.out.1
      by_cases hs : seesL [59] s'.r = true
      · rw [hs] at hc
        have hN := HM.out
        obtain ⟨fu', rfl⟩ : ∃ q, fu = q + 1 := ⟨fu - 1, by have := HQ.out.1; have := mS_alive ge; omega⟩
        rw [more_go ge hs] at hN
        have HN := Hd hN
        have HNE2 := Hd (sees_ne hs)
        have HGE := Hd ge
        have HC := Hd hc
        clear hN hc hs ge
        go_wp2_with fail
        refine HC.out.mono ?_
        rintro e w21 ⟨rfl, hb⟩
        have HG21 := Hd (grown_of (b := b) hb)
        have hsz21 : wr.heap.size ≤ w21.heap.size := hb.size
        have H21 := Hd (Ai (H20.out.1.later hb) (Gt H20.out.2 HG21.out))
        clear HC hb
        replace HBq := Hd (boxw_grown HBq.out HG21.out (by omega))
        obtain ⟨i, hiT, hir, c1⟩ := H21.out.1.c1
        have y1 := H21.out.1.z 1
        have hTn := HT0.out
        have ej : IntKind.i64.wrap ((i : Int) + 1) = (i : Int) + 1 := by rw [IntKind.wrap_i64]; omega
        have hP9 := H21.out.1.next c1 HNE2.out
        have hgs := set_grown w21 b 1 (.int .i64 ((i : Int) + 1))
        have H22 := Hd (Ai hP9 (Gt H21.out.2 hgs))
        have HG22 := Hd hgs
        have hsz22 : w21.heap.size ≤ (w21.setCell ⟨b, 1, none⟩ (.int .i64 ((i : Int) + 1))).heap.size := by simp
        clear hir hiT hP9 hgs
        go_wp2_with fail
        generalize (w21.setCell ⟨b, 1, none⟩ (.int .i64 ((i : Int) + 1))) = w22 at *
        clear c1 y1
        replace HBq := Hd (boxw_grown HBq.out HG22.out (by omega))
        have HOn := Hd (own_kept HOb.out (Gt HG21.out HG22.out) (fun e => by have := HLw.out b e; omega))
        have HCo := Hd (fun (W' : World) (hb : Below w22.heap.size w22 W') => dbind_any b T k hEx dd HD.out s'.next W' (H22.out.1.later hb))
        have q6 : w22.cell? ⟨(w3.heap.size + 1), 6, none⟩ = some (.slice aa bs.length cc) := HBq.out.1 6 _ rfl
        have HNm := Hd (show bs.length + 1 ≤ 100000 by have := HQ.out.2; have := mS_alive HGE.out; have := HMs.out; omega)
        have HLT := Hd (Nat.lt_of_lt_of_le (bind_lt (ll := (lastOf 1 T)) (ex := (exprD (lastOf 1 T) k)) (expr_mn k) (s := s'.next) HGE.out) (next_mn s'))
        have HHn := Hd H22.out
        have hnm : bs.length + 1 ≤ 100000 := HNm.out
        generalize hqi : (bindD (lastOf 1 T) (exprD (lastOf 1 T) k)) s'.next = Q at *
        obtain ⟨a, s2⟩ := Q
        clear hqi
        go_region_law
          (first
            | (refine step_onto_bind rfl _ _ rfl (w5.alloc (.cells #[.string (tx a.1), .slice ap0 np0 cp0, .int .i64 k1, .string nm1, .bool f1, .int .u64 u1, .slice ap1 np1 cp1, .slice ak1 nk1 ck1, .slice ab1 nb1 cb1, .slice aa1 na1 ca1] 59)) W.heap.size bs.length (.slice aa bs.length cc) cs rfl HO6.out w5.heap.size 1 [.string (tx a.1), .slice ap0 np0 cp0, .int .i64 k1, .string nm1, .bool f1, .int .u64 u1, .slice ap1 np1 cp1, .slice ak1 nk1 ck1, .slice ab1 nb1 cb1, .slice aa1 na1 ca1] _ rfl (own_built (cs := #[.string (tx a.1), .slice ap0 np0 cp0, .int .i64 k1, .string nm1, .bool f1, .int .u64 u1, .slice ap1 np1 cp1, .slice ak1 nk1 ck1, .slice ab1 nb1 cb1, .slice aa1 na1 ca1]) (heap_alloc_new _ _) Nr rfl (by decide)) HO1.out (by omega) HS6.out ?_; intro ao cap w9 hon; have hBq := boxw_o HB6.out hon.2.1 HVp.out; have qb6 := hBq.1 6 _ rfl; have zb6 := hBq.2 6; have H9 := Hd (Ai hon hBq); clear hon hBq)
            | (refine step_wanted rfl ?_; go_simp; go_at_call 24; refine (HCo.out _ (by first | exact Br | exact Br.drew | exact dbelow Br _)).mono ?_; rintro e w5 ⟨⟨vp0, k1, nm1, f1, u1, vq, vk, vb, va, rfl, hrow, hat⟩, hP5, hg5'⟩; obtain ⟨ap0, np0, cp0, rfl⟩ := hrow.slice; obtain ⟨⟨ap1, np1, cp1, rfl⟩, ⟨ak1, nk1, ck1, rfl⟩, ⟨ab1, nb1, cb1, rfl⟩, ⟨aa1, na1, ca1, rfl⟩⟩ := hat.slices; have hg5 : w22.grownBy w5 (some b) := Gt (grown_of (by first | exact Br | exact Br.drew | exact dbelow Br _)) hg5'; have hB5 := boxw_grown HBq.out hg5 (by omega); have q6 := hB5.1 6 _ rfl; have hy5 := (Below.refl w5.heap.size w5).alloc Nr (.cells #[.string (tx a.1), .slice ap0 np0 cp0, .int .i64 k1, .string nm1, .bool f1, .int .u64 u1, .slice ap1 np1 cp1, .slice ak1 nk1 ck1, .slice ab1 nb1 cb1, .slice aa1 na1 ca1] 59); have qc6 := (hB5.below hy5).1 6 _ rfl; have HB6 := Hd (hB5.below hy5); have HO6 := Hd (own_below (own_kept HOn.out hg5 (fun e => by have := HLw.out b e; omega)) hy5); have HO1 := Hd (show ∀ zz ∈ ([.string (tx a.1), .slice ap0 np0 cp0, .int .i64 k1, .string nm1, .bool f1, .int .u64 u1, .slice ap1 np1 cp1, .slice ak1 nk1 ck1, .slice ab1 nb1 cb1, .slice aa1 na1 ca1] : List Value), zz.oneCell' = true by intro z hz; simp at hz; rcases hz with rfl | rfl | rfl | rfl | rfl | rfl | rfl | rfl | rfl | rfl <;> rfl); have hs5 : w22.heap.size ≤ w5.heap.size := hg5.size; have HS6 := Hd (show W.heap.size ≤ (w5.alloc (.cells #[.string (tx a.1), .slice ap0 np0 cp0, .int .i64 k1, .string nm1, .bool f1, .int .u64 u1, .slice ap1 np1 cp1, .slice ak1 nk1 ck1, .slice ab1 nb1 cb1, .slice aa1 na1 ca1] 59)).heap.size by have := hy5.size; omega); have H6 := Hd (Ai (show PAt w5 b T s2 from hP5) (Ai hg5 (Ai (show RowAt w5 (fun g => w22.heap.size ≤ g) 9 1 (.slice ap0 np0 cp0) a.2.1.length (namesV a.2.1) from hrow) (Ai (show ExAt w5 (fun g => w22.heap.size ≤ g) a.2.2 _ from hat) hy5)))); clear hP5 hg5 hg5' hrow hat hy5 hB5))
        all_goals
          go_wp2_with fail
          obtain ⟨⟨o1, o2, o3⟩, hB9⟩ := H9.out
          obtain ⟨hP5, hg5, hrow, hat, hy5⟩ := H6.out
          have hs5 := hg5.size
          have hs6 := hy5.size
          have hlow9 : ∀ g, (Value.slice aa bs.length cc).ownBlock = some g → W.heap.size ≤ g := HLw.out
          have hlt9 : ∀ g, (Value.slice aa bs.length cc).ownBlock = some g → g < wr.heap.size := HLt.out
          obtain ⟨q, hq, hg9⟩ := grown_some (b := b) o2 (fun g e => by have := hlow9 g e; omega)
          have hs9 := hg9.size
          have hP9 := ((hP5.later hy5).past hg9 hq).over (p := (w3.heap.size + 1)) (i := 6) (by omega) (.slice ao (bs.length + 1) cap)
          have hG9 := grown_new (grown_past (Gt HHn.out.2 (Gt hg5 (grown_of hy5))) o2 hlow9) (p := (w3.heap.size + 1)) (i := 6) (by omega) (.slice ao (bs.length + 1) cap)
          have hvn : some (w3.heap.size + 1) ≠ (Value.slice ao (bs.length + 1) cap).ownBlock := fun e => by
            rcases o3 with h | h
            · exact HVp.out (e.trans h)
            · have h2 : w3.heap.size + 1 = (w5.alloc (.cells #[.string (tx a.1), .slice ap0 np0 cp0, .int .i64 k1, .string nm1, .bool f1, .int .u64 u1, .slice ap1 np1 cp1, .slice ak1 nk1 ck1, .slice ab1 nb1 cb1, .slice aa1 na1 ca1] 59)).heap.size := Oi (e.trans h)
              omega
          have hO9 := own_o o1 (set_grown w9 (w3.heap.size + 1) 6 (.slice ao (bs.length + 1) cap)) (fun g e e2 => hvn (e2.symm.trans e.symm))
          have hBf := hB9.set 6 (show 6 < 8 by decide) (.slice ao (bs.length + 1) cap)
          have hnw : ∀ g, g ≠ (w3.heap.size + 1) → (w9.setCell ⟨(w3.heap.size + 1), 6, none⟩ (.slice ao (bs.length + 1) cap)).heap[g]? = w9.heap[g]? := fun g h => Below.heap_setCell _ _ _ _ (by simp only; omega)
          have hln := HLT.out
          have hlm : mS s2 < mS s' := hln
          have hfu := HQ.out.1
          have hlq := HQ.out.2
          have hnv : ∀ g, g < w5.heap.size → some g ≠ (Value.slice aa bs.length cc).ownBlock → some g ≠ (Value.slice ao (bs.length + 1) cap).ownBlock := fun g h1 h2 e => by
            rcases o3 with h | h
            · exact h2 (e.trans h)
            · have h3 : g = (w5.alloc (.cells #[.string (tx a.1), .slice ap0 np0 cp0, .int .i64 k1, .string nm1, .bool f1, .int .u64 u1, .slice ap1 np1 cp1, .slice ak1 nk1 ck1, .slice ab1 nb1 cb1, .slice aa1 na1 ca1] 59)).heap.size := Oi (e.trans h)
              omega
          refine ⟨⟨s2, bs ++ [a], _, cs ++ [.string (tx a.1), .slice ap0 np0 cp0, .int .i64 k1, .string nm1, .bool f1, .int .u64 u1, .slice ap1 np1 cp1, .slice ak1 nk1 ck1, .slice ab1 nb1 cb1, .slice aa1 na1 ca1], fu', hP9, hG9, by omega, HN.out, by simp; omega, hBf, by simpa using hO9, ?_, hvn, by simp; omega⟩, by rw [hP9.m, HS0.out.m]; exact hlm⟩
          have hfar : ∀ g, w22.heap.size ≤ g → g < w5.heap.size → (W.heap.size ≤ g ∧ some g ≠ (Value.slice ao (bs.length + 1) cap).ownBlock ∧ g ≠ (w3.heap.size + 1)) ∧ (w9.setCell ⟨(w3.heap.size + 1), 6, none⟩ (.slice ao (bs.length + 1) cap)).heap[g]? = w5.heap[g]? := fun g h1 h2 => by
            have hne : some g ≠ (Value.slice aa bs.length cc).ownBlock := fun e => by have := hlt9 g e.symm; omega
            exact ⟨⟨by omega, hnv g h2 hne, by omega⟩, (hnw g (by omega)).trans ((o2.block g (by omega) hne).trans (hy5.block g h2))⟩
          refine BndsAt.snoc (HXb.out.move fun g hg lt => ?_) (hrow.move fun g hg lt => hfar g hg lt) (hat.move fun g hg lt => hfar g hg lt)
          exact ⟨⟨hg.1, hnv g (by omega) hg.2.1, hg.2.2⟩, (hnw g hg.2.2).trans ((o2.block g (by omega) hg.2.1).trans ((hy5.block g (by omega)).trans ((hg5.block g (by omega) (by have := hg.1; simp; omega)).trans ((HG22.out.block g (by omega) (by have := hg.1; simp; omega)).trans (HG21.out.block g lt (by have := hg.1; simp; omega))))))⟩
      · have hs' : seesL [59] s'.r = false := by simpa using hs
        rw [hs'] at hc
        have HC := Hd hc
        have HNs := Hd hs
        clear hc hs hs' ge
        go_wp2_with fail
        refine HC.out.mono ?_
        rintro e w21 ⟨rfl, hb⟩
        have HG21 := Hd (grown_of (b := b) hb)
        have hsz21 : wr.heap.size ≤ w21.heap.size := hb.size
        have H21 := Hd (Ai (H20.out.1.later hb) (Gt H20.out.2 HG21.out))
        clear HC hb
        replace HBq := Hd (boxw_grown HBq.out HG21.out (by omega))
        have HRn := Hd (own_kept HOb.out HG21.out (fun e => by have := HLw.out b e; omega))
        clear HOb
        have HOb := HRn
        clear HRn
        have hN := HM.out
        rw [more_no (fun h => HNs.out h.2)] at hN
        have HPw := Hd (show exprD (lastOf 1 T) (k + 1) s = (.mk 6 [] false 0 [] [((exprD (lastOf 1 T) k) (needD (lastOf 1 T) [105, 110] (s'))).1] bs [], ((exprD (lastOf 1 T) k) (needD (lastOf 1 T) [105, 110] (s'))).2) from by rw [HPu.out, ← hN])
        clear hN HPu
        have HKs := Hd (Ks.refl W.heap.size (w3.heap.size + 1) wr)
        have HVq := Hd (show ∀ g, (Value.slice aa bs.length cc).ownBlock = some g → g ≠ (w3.heap.size + 1) from fun g e h => HVp.out (by rw [e, h]))
        have HKn := Hd (HKs.out.trans (Ks.grown HG21.out (by omega)))
        clear HKs
        have HKs := HKn
        clear HKn
        go_wp2_with fail
        refine (dneed_any b T (s') [105, 110] w21 H21.out.1).mono ?_
        rintro e w22 ⟨rfl, hP, hg⟩
        have HG22 := Hd hg
        have hsz22 : w21.heap.size ≤ w22.heap.size := hg.size
        have H22 := Hd (Ai hP (Gt H21.out.2 hg))
        clear hP hg
        replace HBq := Hd (boxw_grown HBq.out HG22.out (by omega))
        have HKn := Hd (HKs.out.trans (Ks.grown HG22.out (by omega)))
        clear HKs
        have HKs := HKn
        clear HKn
        have HRn := Hd (own_kept HOb.out HG22.out (fun e => by have := HLw.out b e; omega))
        clear HOb
        have HOb := HRn
        clear HRn
        go_wp2_with fail
        refine (show Calls Tryz.prog 53 #[.pointer (some ⟨b, 0, none⟩), .int .i64 (201 - (k : Int))] w22 _ from hEx (needD (lastOf 1 T) [105, 110] (s')) w22 H22.out.1).mono ?_
        rintro e w23 ⟨⟨k0, nm, f, u, vp, vk, vb, va, rfl, hat⟩, hP, hg⟩
        have HG23 := Hd hg
        have hsz23 : w22.heap.size ≤ w23.heap.size := hg.size
        have H23 := Hd (Ai hP (Gt H22.out.2 hg))
        clear hP hg
        obtain ⟨⟨ap, np, cp, rfl⟩, ⟨ak, nk, ck, rfl⟩, ⟨ab, nb, cb, rfl⟩, ⟨a5, n5, c5, rfl⟩⟩ := hat.slices
        have HAx := Hd hat
        clear hat
        generalize (exprD (lastOf 1 T) k) (needD (lastOf 1 T) [105, 110] (s')) = Q at *
        obtain ⟨x, s3⟩ := Q
        replace HBq := Hd (boxw_grown HBq.out HG23.out (by omega))
        have HKn := Hd (HKs.out.trans (Ks.grown HG23.out (by omega)))
        clear HKs
        have HKs := HKn
        clear HKn
        have HRn := Hd (own_kept HOb.out HG23.out (fun e => by have := HLw.out b e; omega))
        clear HOb
        have HOb := HRn
        clear HRn
        have hy := (Below.refl w23.heap.size w23).alloc Nr (.cells #[.int .i64 k0, .string nm, .bool f, .int .u64 u, .slice ap np cp, .slice ak nk ck, .slice ab nb cb, .slice a5 n5 c5] 57)
        replace HBq := Hd (HBq.out.below hy)
        have HKd := Hd (own_built (W := (w23.alloc (.cells #[.int .i64 k0, .string nm, .bool f, .int .u64 u, .slice ap np cp, .slice ak nk ck, .slice ab nb cb, .slice a5 n5 c5] 57))) (g := w23.heap.size) (base := w23.heap.size) (e := 57) (size := 8) (n := 1) (cs := #[.int .i64 k0, .string nm, .bool f, .int .u64 u, .slice ap np cp, .slice ak nk ck, .slice ab nb cb, .slice a5 n5 c5]) (heap_alloc_new _ _) Nr rfl (by decide))
        have HG24 := Hd (grown_of (b := b) hy)
        have hsz24 : w23.heap.size + 1 ≤ (w23.alloc (.cells #[.int .i64 k0, .string nm, .bool f, .int .u64 u, .slice ap np cp, .slice ak nk ck, .slice ab nb cb, .slice a5 n5 c5] 57)).heap.size := by simp
        have H24 := Hd (Ai (H23.out.1.later hy) (Gt H23.out.2 HG24.out))
        have HRn := Hd (own_below HOb.out hy)
        clear HOb
        have HOb := HRn
        clear HRn
        clear hy
        have q5 : (w23.alloc (.cells #[.int .i64 k0, .string nm, .bool f, .int .u64 u, .slice ap np cp, .slice ak nk ck, .slice ab nb cb, .slice a5 n5 c5] 57)).cell? ⟨(w3.heap.size + 1), 5, none⟩ = some _ := HBq.out.1 5 _ rfl
        have z5 : (w23.alloc (.cells #[.int .i64 k0, .string nm, .bool f, .int .u64 u, .slice ap np cp, .slice ak nk ck, .slice ab nb cb, .slice a5 n5 c5] 57)).frozen? ⟨(w3.heap.size + 1), 5, none⟩ = false := HBq.out.2 5
        go_upto_region 16 with fail
        generalize hWA : (w23.alloc (.cells #[.int .i64 k0, .string nm, .bool f, .int .u64 u, .slice ap np cp, .slice ak nk ck, .slice ab nb cb, .slice a5 n5 c5] 57)) = WA at *
        clear hWA
        have HBn := Hd (show BoxW (WA.setCell ⟨(w3.heap.size + 1), 5, none⟩ (.slice (some ⟨w23.heap.size, 0, none⟩) 1 1)) (w3.heap.size + 1) [.int .i64 6, .string ⟨#[]⟩, .bool false, .int .u64 0, .slice none 0 0, .slice (some ⟨w23.heap.size, 0, none⟩) 1 1, .slice aa bs.length cc, .slice none 0 0] from (HBq.out).set 5 (show 5 < 8 by decide) (.slice (some ⟨w23.heap.size, 0, none⟩) 1 1))
        have H25 := Hd (Ai (show PAt (WA.setCell ⟨(w3.heap.size + 1), 5, none⟩ (.slice (some ⟨w23.heap.size, 0, none⟩) 1 1)) b T (s3) from (H24.out.1).over (show b < (w3.heap.size + 1) by omega) _) (show W.grownBy (WA.setCell ⟨(w3.heap.size + 1), 5, none⟩ (.slice (some ⟨w23.heap.size, 0, none⟩) 1 1)) (some b) from (grown_new H24.out.2 (show W.heap.size ≤ (w3.heap.size + 1) by omega) _)))
        have HK25 := Hd (show ∀ lo hi, (w3.heap.size + 1) < lo → Kp lo hi WA (WA.setCell ⟨(w3.heap.size + 1), 5, none⟩ (.slice (some ⟨w23.heap.size, 0, none⟩) 1 1)) from fun lo hi h => (Kp.set _ _ _ _ (Or.inl h)))
        have hsz25 : WA.heap.size ≤ (WA.setCell ⟨(w3.heap.size + 1), 5, none⟩ (.slice (some ⟨w23.heap.size, 0, none⟩) 1 1)).heap.size := by simp
        have HS25 := Hd (show Ks W.heap.size (w3.heap.size + 1) WA (WA.setCell ⟨(w3.heap.size + 1), 5, none⟩ (.slice (some ⟨w23.heap.size, 0, none⟩) 1 1)) from (Ks.set _ _ _ _ (Or.inl rfl)))
        have HRn := Hd (own_o HOb.out (set_grown _ (w3.heap.size + 1) 5 (.slice (some ⟨w23.heap.size, 0, none⟩) 1 1)) (fun g e e2 => by have := HVq.out g e; have := Oi e2; omega))
        clear HOb
        have HOb := HRn
        clear HRn
        have HRn := Hd (own_o HKd.out (set_grown _ (w3.heap.size + 1) 5 (.slice (some ⟨w23.heap.size, 0, none⟩) 1 1)) (fun g e e2 => by have := (HKd.out.lt g e).1; have := Oi e2; omega))
        clear HKd
        have HKd := HRn
        clear HRn
        clear HBq q5 z5
        have HBq := HBn
        clear HBn
        generalize (WA.setCell ⟨(w3.heap.size + 1), 5, none⟩ (.slice (some ⟨w23.heap.size, 0, none⟩) 1 1)) = w25 at *
        have HKn := Hd (HKs.out.trans (Ks.grown HG24.out (by omega)))
        clear HKs
        have HKs := HKn
        clear HKn
        have HKn := Hd (HKs.out.trans (HS25.out))
        clear HKs
        have HKs := HKn
        clear HKn
        have HPv := Hd (show exprD (lastOf 1 T) (k + 1) s = (.mk 6 [] false 0 [] [x] bs [], s3) from HPw.out)
        obtain ⟨q0, q1, q2, q3, q4, q5, q6, q7⟩ := (HBq.out).q8
        have hBp := boxw_grown HX.out.2 H25.out.2 (by omega)
        obtain ⟨d0, d1, d2, d3, d4, d5, d6, d7⟩ := (hBp).q8
        obtain ⟨z0, z1, z2, z3, z4, z5, z6, z7⟩ := (hBp).z8
        have HBp := Hd hBp
        clear hBp
        go_wp2_with fail
        have hF := ((HBp.out).b8v (.int .i64 6) (.string ⟨#[]⟩) (.bool false) (.int .u64 0) (.slice none 0 0) (.slice (some ⟨w23.heap.size, 0, none⟩) 1 1) (.slice aa bs.length cc) (.slice none 0 0))
        have v0 := hF.1 0 _ rfl
        have v1 := hF.1 1 _ rfl
        have v2 := hF.1 2 _ rfl
        have v3 := hF.1 3 _ rfl
        have v4 := hF.1 4 _ rfl
        have v5 := hF.1 5 _ rfl
        have v6 := hF.1 6 _ rfl
        have v7 := hF.1 7 _ rfl
        refine bodyPost_ret (v := .agg #[.int .i64 6, .string ⟨#[]⟩, .bool false, .int .u64 0, .slice none 0 0, .slice (some ⟨w23.heap.size, 0, none⟩) 1 1, .slice aa bs.length cc, .slice none 0 0]) (by simp [results, Tryz.results53, go_sem, v0, v1, v2, v3, v4, v5, v6, v7]) rfl ?_
        rw [HPv.out]
        refine ⟨⟨_, _, _, _, _, _, _, _, rfl, .mk 6 [] false 0 [] [x] bs [] _ _ (.slice aa bs.length cc) _ [.int .i64 k0, .string nm, .bool f, .int .u64 u, .slice ap np cp, .slice ak nk ck, .slice ab nb cb, .slice a5 n5 c5] cs [] (RowAt.nil _ _ _ _) ((RowAt.own HKd.out).kp (lo' := w.heap.size) ((Kp.s8 (Or.inl (by omega)))) (by omega)) ((RowAt.own HOb.out).kp (lo' := w.heap.size) ((Kp.s8 (Or.inl (by omega)))) (by omega)) (RowAt.nil _ _ _ _) (ExsAt.cons x [] [.int .i64 k0, .string nm, .bool f, .int .u64 u, .slice ap np cp, .slice ak nk ck, .slice ab nb cb, .slice a5 n5 c5] [] (HAx.out.kp (lo' := w.heap.size) ((((Kp.grown HG24.out (by omega) (by omega)).trans (HK25.out _ _ (by omega)))).trans ((Kp.s8 (Or.inl (by omega))))) (by omega)) .nil) (HXb.out.move fun g hg lt => ⟨Nt (by omega) hg.1, (HKs.out.trans ((((((((Ks.set _ _ _ _ (Or.inr (by omega))).trans (Ks.set _ _ _ _ (Or.inr (by omega)))).trans (Ks.set _ _ _ _ (Or.inr (by omega)))).trans (Ks.set _ _ _ _ (Or.inr (by omega)))).trans (Ks.set _ _ _ _ (Or.inr (by omega)))).trans (Ks.set _ _ _ _ (Or.inr (by omega)))).trans (Ks.set _ _ _ _ (Or.inr (by omega)))).trans (Ks.set _ _ _ _ (Or.inr (by omega))))).2 g hg.1 hg.2.2 lt⟩) .nil⟩, ((((((((H25.out.1).over hlt _).over hlt _).over hlt _).over hlt _).over hlt _).over hlt _).over hlt _).over hlt _, (grown_new (grown_new (grown_new (grown_new (grown_new (grown_new (grown_new (grown_new (Gt (grown_of (b := b) HX.out.1) H25.out.2) Nr _) Nr _) Nr _) Nr _) Nr _) Nr _) Nr _) Nr _)⟩
    · have f1 : (s'.e == 0) = false := by simp [ge]
      have HGe := Hd ge
      clear ge
      have hN := HM.out
      rw [more_no (fun h => HGe.out h.1)] at hN
      have HPw := Hd (show exprD (lastOf 1 T) (k + 1) s = (.mk 6 [] false 0 [] [((exprD (lastOf 1 T) k) (needD (lastOf 1 T) [105, 110] (s'))).1] bs [], ((exprD (lastOf 1 T) k) (needD (lastOf 1 T) [105, 110] (s'))).2) from by rw [HPu.out, ← hN])
      clear hN HPu
      have HKs := Hd (Ks.refl W.heap.size (w3.heap.size + 1) wr)
      have HVq := Hd (show ∀ g, (Value.slice aa bs.length cc).ownBlock = some g → g ≠ (w3.heap.size + 1) from fun g e h => HVp.out (by rw [e, h]))
      go_wp2_with fail
      refine (dneed_any b T (s') [105, 110] wr H20.out.1).mono ?_
      rintro e w21 ⟨rfl, hP, hg⟩
      have HG21 := Hd hg
      have hsz21 : wr.heap.size ≤ w21.heap.size := hg.size
      have H21 := Hd (Ai hP (Gt H20.out.2 hg))
      clear hP hg
      replace HBq := Hd (boxw_grown HBq.out HG21.out (by omega))
      have HKn := Hd (HKs.out.trans (Ks.grown HG21.out (by omega)))
      clear HKs
      have HKs := HKn
      clear HKn
      have HRn := Hd (own_kept HOb.out HG21.out (fun e => by have := HLw.out b e; omega))
      clear HOb
      have HOb := HRn
      clear HRn
      go_wp2_with fail
      refine (show Calls Tryz.prog 53 #[.pointer (some ⟨b, 0, none⟩), .int .i64 (201 - (k : Int))] w21 _ from hEx (needD (lastOf 1 T) [105, 110] (s')) w21 H21.out.1).mono ?_
      rintro e w22 ⟨⟨k0, nm, f, u, vp, vk, vb, va, rfl, hat⟩, hP, hg⟩
      have HG22 := Hd hg
      have hsz22 : w21.heap.size ≤ w22.heap.size := hg.size
      have H22 := Hd (Ai hP (Gt H21.out.2 hg))
      clear hP hg
      obtain ⟨⟨ap, np, cp, rfl⟩, ⟨ak, nk, ck, rfl⟩, ⟨ab, nb, cb, rfl⟩, ⟨a5, n5, c5, rfl⟩⟩ := hat.slices
      have HAx := Hd hat
      clear hat
      generalize (exprD (lastOf 1 T) k) (needD (lastOf 1 T) [105, 110] (s')) = Q at *
      obtain ⟨x, s3⟩ := Q
      replace HBq := Hd (boxw_grown HBq.out HG22.out (by omega))
      have HKn := Hd (HKs.out.trans (Ks.grown HG22.out (by omega)))
      clear HKs
      have HKs := HKn
      clear HKn
      have HRn := Hd (own_kept HOb.out HG22.out (fun e => by have := HLw.out b e; omega))
      clear HOb
      have HOb := HRn
      clear HRn
      have hy := (Below.refl w22.heap.size w22).alloc Nr (.cells #[.int .i64 k0, .string nm, .bool f, .int .u64 u, .slice ap np cp, .slice ak nk ck, .slice ab nb cb, .slice a5 n5 c5] 57)
      replace HBq := Hd (HBq.out.below hy)
      have HKd := Hd (own_built (W := (w22.alloc (.cells #[.int .i64 k0, .string nm, .bool f, .int .u64 u, .slice ap np cp, .slice ak nk ck, .slice ab nb cb, .slice a5 n5 c5] 57))) (g := w22.heap.size) (base := w22.heap.size) (e := 57) (size := 8) (n := 1) (cs := #[.int .i64 k0, .string nm, .bool f, .int .u64 u, .slice ap np cp, .slice ak nk ck, .slice ab nb cb, .slice a5 n5 c5]) (heap_alloc_new _ _) Nr rfl (by decide))
      have HG23 := Hd (grown_of (b := b) hy)
      have hsz23 : w22.heap.size + 1 ≤ (w22.alloc (.cells #[.int .i64 k0, .string nm, .bool f, .int .u64 u, .slice ap np cp, .slice ak nk ck, .slice ab nb cb, .slice a5 n5 c5] 57)).heap.size := by simp
      have H23 := Hd (Ai (H22.out.1.later hy) (Gt H22.out.2 HG23.out))
      have HRn := Hd (own_below HOb.out hy)
      clear HOb
      have HOb := HRn
      clear HRn
      clear hy
      have q5 : (w22.alloc (.cells #[.int .i64 k0, .string nm, .bool f, .int .u64 u, .slice ap np cp, .slice ak nk ck, .slice ab nb cb, .slice a5 n5 c5] 57)).cell? ⟨(w3.heap.size + 1), 5, none⟩ = some _ := HBq.out.1 5 _ rfl
      have z5 : (w22.alloc (.cells #[.int .i64 k0, .string nm, .bool f, .int .u64 u, .slice ap np cp, .slice ak nk ck, .slice ab nb cb, .slice a5 n5 c5] 57)).frozen? ⟨(w3.heap.size + 1), 5, none⟩ = false := HBq.out.2 5
      go_upto_region 16 with fail
      generalize hWA : (w22.alloc (.cells #[.int .i64 k0, .string nm, .bool f, .int .u64 u, .slice ap np cp, .slice ak nk ck, .slice ab nb cb, .slice a5 n5 c5] 57)) = WA at *
      clear hWA
      have HBn := Hd (show BoxW (WA.setCell ⟨(w3.heap.size + 1), 5, none⟩ (.slice (some ⟨w22.heap.size, 0, none⟩) 1 1)) (w3.heap.size + 1) [.int .i64 6, .string ⟨#[]⟩, .bool false, .int .u64 0, .slice none 0 0, .slice (some ⟨w22.heap.size, 0, none⟩) 1 1, .slice aa bs.length cc, .slice none 0 0] from (HBq.out).set 5 (show 5 < 8 by decide) (.slice (some ⟨w22.heap.size, 0, none⟩) 1 1))
      have H24 := Hd (Ai (show PAt (WA.setCell ⟨(w3.heap.size + 1), 5, none⟩ (.slice (some ⟨w22.heap.size, 0, none⟩) 1 1)) b T (s3) from (H23.out.1).over (show b < (w3.heap.size + 1) by omega) _) (show W.grownBy (WA.setCell ⟨(w3.heap.size + 1), 5, none⟩ (.slice (some ⟨w22.heap.size, 0, none⟩) 1 1)) (some b) from (grown_new H23.out.2 (show W.heap.size ≤ (w3.heap.size + 1) by omega) _)))
      have HK24 := Hd (show ∀ lo hi, (w3.heap.size + 1) < lo → Kp lo hi WA (WA.setCell ⟨(w3.heap.size + 1), 5, none⟩ (.slice (some ⟨w22.heap.size, 0, none⟩) 1 1)) from fun lo hi h => (Kp.set _ _ _ _ (Or.inl h)))
      have hsz24 : WA.heap.size ≤ (WA.setCell ⟨(w3.heap.size + 1), 5, none⟩ (.slice (some ⟨w22.heap.size, 0, none⟩) 1 1)).heap.size := by simp
      have HS24 := Hd (show Ks W.heap.size (w3.heap.size + 1) WA (WA.setCell ⟨(w3.heap.size + 1), 5, none⟩ (.slice (some ⟨w22.heap.size, 0, none⟩) 1 1)) from (Ks.set _ _ _ _ (Or.inl rfl)))
      have HRn := Hd (own_o HOb.out (set_grown _ (w3.heap.size + 1) 5 (.slice (some ⟨w22.heap.size, 0, none⟩) 1 1)) (fun g e e2 => by have := HVq.out g e; have := Oi e2; omega))
      clear HOb
      have HOb := HRn
      clear HRn
      have HRn := Hd (own_o HKd.out (set_grown _ (w3.heap.size + 1) 5 (.slice (some ⟨w22.heap.size, 0, none⟩) 1 1)) (fun g e e2 => by have := (HKd.out.lt g e).1; have := Oi e2; omega))
      clear HKd
      have HKd := HRn
      clear HRn
      clear HBq q5 z5
      have HBq := HBn
      clear HBn
      generalize (WA.setCell ⟨(w3.heap.size + 1), 5, none⟩ (.slice (some ⟨w22.heap.size, 0, none⟩) 1 1)) = w24 at *
      have HKn := Hd (HKs.out.trans (Ks.grown HG23.out (by omega)))
      clear HKs
      have HKs := HKn
      clear HKn
      have HKn := Hd (HKs.out.trans (HS24.out))
      clear HKs
      have HKs := HKn
      clear HKn
      have HPv := Hd (show exprD (lastOf 1 T) (k + 1) s = (.mk 6 [] false 0 [] [x] bs [], s3) from HPw.out)
      obtain ⟨q0, q1, q2, q3, q4, q5, q6, q7⟩ := (HBq.out).q8
      have hBp := boxw_grown HX.out.2 H24.out.2 (by omega)
      obtain ⟨d0, d1, d2, d3, d4, d5, d6, d7⟩ := (hBp).q8
      obtain ⟨z0, z1, z2, z3, z4, z5, z6, z7⟩ := (hBp).z8
      have HBp := Hd hBp
      clear hBp
      go_wp2_with fail
      have hF := ((HBp.out).b8v (.int .i64 6) (.string ⟨#[]⟩) (.bool false) (.int .u64 0) (.slice none 0 0) (.slice (some ⟨w22.heap.size, 0, none⟩) 1 1) (.slice aa bs.length cc) (.slice none 0 0))
      have v0 := hF.1 0 _ rfl
      have v1 := hF.1 1 _ rfl
      have v2 := hF.1 2 _ rfl
      have v3 := hF.1 3 _ rfl
      have v4 := hF.1 4 _ rfl
      have v5 := hF.1 5 _ rfl
      have v6 := hF.1 6 _ rfl
      have v7 := hF.1 7 _ rfl
      refine bodyPost_ret (v := .agg #[.int .i64 6, .string ⟨#[]⟩, .bool false, .int .u64 0, .slice none 0 0, .slice (some ⟨w22.heap.size, 0, none⟩) 1 1, .slice aa bs.length cc, .slice none 0 0]) (by simp [results, Tryz.results53, go_sem, v0, v1, v2, v3, v4, v5, v6, v7]) rfl ?_
      rw [HPv.out]
      refine ⟨⟨_, _, _, _, _, _, _, _, rfl, .mk 6 [] false 0 [] [x] bs [] _ _ (.slice aa bs.length cc) _ [.int .i64 k0, .string nm, .bool f, .int .u64 u, .slice ap np cp, .slice ak nk ck, .slice ab nb cb, .slice a5 n5 c5] cs [] (RowAt.nil _ _ _ _) ((RowAt.own HKd.out).kp (lo' := w.heap.size) ((Kp.s8 (Or.inl (by omega)))) (by omega)) ((RowAt.own HOb.out).kp (lo' := w.heap.size) ((Kp.s8 (Or.inl (by omega)))) (by omega)) (RowAt.nil _ _ _ _) (ExsAt.cons x [] [.int .i64 k0, .string nm, .bool f, .int .u64 u, .slice ap np cp, .slice ak nk ck, .slice ab nb cb, .slice a5 n5 c5] [] (HAx.out.kp (lo' := w.heap.size) ((((Kp.grown HG23.out (by omega) (by omega)).trans (HK24.out _ _ (by omega)))).trans ((Kp.s8 (Or.inl (by omega))))) (by omega)) .nil) (HXb.out.move fun g hg lt => ⟨Nt (by omega) hg.1, (HKs.out.trans ((((((((Ks.set _ _ _ _ (Or.inr (by omega))).trans (Ks.set _ _ _ _ (Or.inr (by omega)))).trans (Ks.set _ _ _ _ (Or.inr (by omega)))).trans (Ks.set _ _ _ _ (Or.inr (by omega)))).trans (Ks.set _ _ _ _ (Or.inr (by omega)))).trans (Ks.set _ _ _ _ (Or.inr (by omega)))).trans (Ks.set _ _ _ _ (Or.inr (by omega)))).trans (Ks.set _ _ _ _ (Or.inr (by omega))))).2 g hg.1 hg.2.2 lt⟩) .nil⟩, ((((((((H24.out.1).over hlt _).over hlt _).over hlt _).over hlt _).over hlt _).over hlt _).over hlt _).over hlt _, (grown_new (grown_new (grown_new (grown_new (grown_new (grown_new (grown_new (grown_new (Gt (grown_of (b := b) HX.out.1) H24.out.2) Nr _) Nr _) Nr _) Nr _) Nr _) Nr _) Nr _) Nr _)⟩
end Go.Proofs.YtdjcdecbmeickaaGreatDoor
