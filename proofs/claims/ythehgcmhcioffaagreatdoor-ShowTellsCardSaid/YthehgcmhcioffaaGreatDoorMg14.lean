import Derived.Test.YthehgcmhcioffaaGreatDoorMg11
import Derived.Test.YthehgcmhcioffaaGreatDoorMg13
namespace Go.Proofs.YthehgcmhcioffaaGreatDoor
set_option maxHeartbeats 64000000
set_option maxRecDepth 100000
open Go.RowKit Go.Lib
theorem dalt_any (b : Nat) (T : List Tok) (k : Nat) (hEx : ExprDC b T k) (dd : Int) (hd : IntKind.i64.wrap (dd + 1) = 201 - (k : Int)) (s : St) (w : World) (hP : PAt w b T s) : Calls Tryz.prog 149 #[.pointer (some ⟨b, 0, none⟩), .int .i64 dd] w (DSaid b T (AltV w.heap.size) (altD (lastOf 1 T) (exprD (lastOf 1 T) k) s) w) := by
  have hlt : b < w.heap.size := hP.lt
  have hx := (Below.refl w.heap.size w).alloc Nr (.cells #[.int .i64 0, .string ⟨#[]⟩, .bool false, .int .u64 0, .slice none 0 0, .int .i64 0, .string ⟨#[]⟩, .bool false, .int .u64 0, .slice none 0 0, .slice none 0 0, .slice none 0 0, .slice none 0 0] 56)
  have HX := Hd (Ai hx (BoxW.alloc w #[.int .i64 0, .string ⟨#[]⟩, .bool false, .int .u64 0, .slice none 0 0, .int .i64 0, .string ⟨#[]⟩, .bool false, .int .u64 0, .slice none 0 0, .slice none 0 0, .slice none 0 0, .slice none 0 0] 56))
  have H0 := Hd (Ai (hP.later hx) (grown_of (b := b) (Below.refl (w.alloc (.cells #[.int .i64 0, .string ⟨#[]⟩, .bool false, .int .u64 0, .slice none 0 0, .int .i64 0, .string ⟨#[]⟩, .bool false, .int .u64 0, .slice none 0 0, .slice none 0 0, .slice none 0 0, .slice none 0 0] 56)).heap.size (w.alloc (.cells #[.int .i64 0, .string ⟨#[]⟩, .bool false, .int .u64 0, .slice none 0 0, .int .i64 0, .string ⟨#[]⟩, .bool false, .int .u64 0, .slice none 0 0, .slice none 0 0, .slice none 0 0, .slice none 0 0] 56)))))
  have HT0 := Hd hP.n
  clear hx hP
  go_enter Tryz.func149, Tryz.ntmps149
  go_upto_region 1 with fail
  have hsz0 : w.heap.size + 1 ≤ (w.alloc (.cells #[.int .i64 0, .string ⟨#[]⟩, .bool false, .int .u64 0, .slice none 0 0, .int .i64 0, .string ⟨#[]⟩, .bool false, .int .u64 0, .slice none 0 0, .slice none 0 0, .slice none 0 0, .slice none 0 0] 56)).heap.size := by simp
  generalize (w.alloc (.cells #[.int .i64 0, .string ⟨#[]⟩, .bool false, .int .u64 0, .slice none 0 0, .int .i64 0, .string ⟨#[]⟩, .bool false, .int .u64 0, .slice none 0 0, .slice none 0 0, .slice none 0 0, .slice none 0 0] 56)) = W at *
  have hy := (Below.refl W.heap.size W).alloc Nr (.cells #[.int .i64 0, .string ⟨#[]⟩, .bool false, .int .u64 0, .slice none 0 0, .int .i64 0, .string ⟨#[]⟩, .bool false, .int .u64 0, .slice none 0 0, .slice none 0 0, .slice none 0 0, .slice none 0 0] 56)
  have HBq := Hd (BoxW.alloc W #[.int .i64 0, .string ⟨#[]⟩, .bool false, .int .u64 0, .slice none 0 0, .int .i64 0, .string ⟨#[]⟩, .bool false, .int .u64 0, .slice none 0 0, .slice none 0 0, .slice none 0 0, .slice none 0 0] 56)
  have HG1 := Hd (grown_of (b := b) hy)
  have hsz1 : W.heap.size + 1 ≤ (W.alloc (.cells #[.int .i64 0, .string ⟨#[]⟩, .bool false, .int .u64 0, .slice none 0 0, .int .i64 0, .string ⟨#[]⟩, .bool false, .int .u64 0, .slice none 0 0, .slice none 0 0, .slice none 0 0, .slice none 0 0] 56)).heap.size := by simp
  have H1 := Hd (Ai (H0.out.1.later hy) (Gt H0.out.2 HG1.out))
  clear hy
  go_upto_region 2 with fail
  generalize (W.alloc (.cells #[.int .i64 0, .string ⟨#[]⟩, .bool false, .int .u64 0, .slice none 0 0, .int .i64 0, .string ⟨#[]⟩, .bool false, .int .u64 0, .slice none 0 0, .slice none 0 0, .slice none 0 0, .slice none 0 0] 56)) = w1 at *
  have HC := Hd (dkind_any b T s w1 H1.out.1)
  go_wp2_with fail
  refine HC.out.mono ?_
  rintro e w2 ⟨rfl, hb⟩
  have HG2 := Hd (grown_of (b := b) hb)
  have hsz2 : w1.heap.size ≤ w2.heap.size := hb.size
  have H2 := Hd (Ai (H1.out.1.later hb) (Gt H1.out.2 HG2.out))
  clear HC hb
  replace HBq := Hd (boxw_grown HBq.out HG2.out (by omega))
  by_cases hk : kindL s.r = 2
  · have kk : (kindL s.r == 2) = true := by simp [hk]
    have HPu := Hd (show altD (lastOf 1 T) (exprD (lastOf 1 T) k) s = _ from if_pos hk)
    clear hk
    have q0 : w2.cell? ⟨W.heap.size, 0, none⟩ = some _ := HBq.out.1 0 _ rfl
    have z0 : w2.frozen? ⟨W.heap.size, 0, none⟩ = false := HBq.out.2 0
    go_wp2_with fail
    have HBn := Hd (show BoxW (w2.setCell ⟨W.heap.size, 0, none⟩ (.int .i64 0)) W.heap.size [.int .i64 0, .string ⟨#[]⟩, .bool false, .int .u64 0, .slice none 0 0, .int .i64 0, .string ⟨#[]⟩, .bool false, .int .u64 0, .slice none 0 0, .slice none 0 0, .slice none 0 0, .slice none 0 0] from (HBq.out).set 0 (show 0 < 13 by decide) (.int .i64 0))
    have H3 := Hd (Ai (show PAt (w2.setCell ⟨W.heap.size, 0, none⟩ (.int .i64 0)) b T (s) from (H2.out.1).over (show b < W.heap.size by omega) _) (show W.grownBy (w2.setCell ⟨W.heap.size, 0, none⟩ (.int .i64 0)) (some b) from (grown_new H2.out.2 (show W.heap.size ≤ W.heap.size by omega) _)))
    have HK3 := Hd (show ∀ lo hi, W.heap.size < lo → Kp lo hi w2 (w2.setCell ⟨W.heap.size, 0, none⟩ (.int .i64 0)) from fun lo hi h => (Kp.set _ _ _ _ (Or.inl h)))
    have hsz3 : w2.heap.size ≤ (w2.setCell ⟨W.heap.size, 0, none⟩ (.int .i64 0)).heap.size := by simp
    clear HBq q0 z0
    have HBq := HBn
    clear HBn
    generalize (w2.setCell ⟨W.heap.size, 0, none⟩ (.int .i64 0)) = w3 at *
    refine (dtok_any b T (s) 2 (by decide) w3 H3.out.1).mono ?_
    rintro e w4 ⟨hv, hP, hg⟩
    have HG4 := Hd hg
    have hsz4 : w3.heap.size ≤ w4.heap.size := hg.size
    have H4 := Hd (Ai hP (Gt H3.out.2 hg))
    clear hP hg
    unfold TokV at hv
    subst hv
    generalize tokD (lastOf 1 T) 2 (s) = Q at *
    obtain ⟨y, s1⟩ := Q
    have hf1 := fun W => tok_field1 y.1.k (tx y.1.t) y.1.f y.1.x y.2 W
    have hf2 := fun W => tok_field2 y.1.k (tx y.1.t) y.1.f y.1.x y.2 W
    replace HBq := Hd (boxw_grown HBq.out HG4.out (by omega))
    have q1 : w4.cell? ⟨W.heap.size, 1, none⟩ = some _ := HBq.out.1 1 _ rfl
    have z1 : w4.frozen? ⟨W.heap.size, 1, none⟩ = false := HBq.out.2 1
    go_wp2_with fail
    have HBn := Hd (show BoxW (w4.setCell ⟨W.heap.size, 1, none⟩ (.string (tx y.1.t))) W.heap.size [.int .i64 0, .string (tx y.1.t), .bool false, .int .u64 0, .slice none 0 0, .int .i64 0, .string ⟨#[]⟩, .bool false, .int .u64 0, .slice none 0 0, .slice none 0 0, .slice none 0 0, .slice none 0 0] from (HBq.out).set 1 (show 1 < 13 by decide) (.string (tx y.1.t)))
    have H5 := Hd (Ai (show PAt (w4.setCell ⟨W.heap.size, 1, none⟩ (.string (tx y.1.t))) b T (s1) from (H4.out.1).over (show b < W.heap.size by omega) _) (show W.grownBy (w4.setCell ⟨W.heap.size, 1, none⟩ (.string (tx y.1.t))) (some b) from (grown_new H4.out.2 (show W.heap.size ≤ W.heap.size by omega) _)))
    have HK5 := Hd (show ∀ lo hi, W.heap.size < lo → Kp lo hi w4 (w4.setCell ⟨W.heap.size, 1, none⟩ (.string (tx y.1.t))) from fun lo hi h => (Kp.set _ _ _ _ (Or.inl h)))
    have hsz5 : w4.heap.size ≤ (w4.setCell ⟨W.heap.size, 1, none⟩ (.string (tx y.1.t))).heap.size := by simp
    clear HBq q1 z1
    have HBq := HBn
    clear HBn
    generalize (w4.setCell ⟨W.heap.size, 1, none⟩ (.string (tx y.1.t))) = w5 at *
    clear hf1 hf2
    refine (show Calls Tryz.prog 101 #[.pointer (some ⟨b, 0, none⟩), .int .i64 0] w5 (DSaid b T (NmsV w5.heap.size) (namesD (lastOf 1 T) false (s1)) w5) from dnames_any b T (s1) false w5 H5.out.1).mono ?_
    rintro e w6 ⟨⟨v, rfl, hown⟩, hP, hg⟩
    have HG6 := Hd hg
    have hsz6 : w5.heap.size ≤ w6.heap.size := hg.size
    have H6 := Hd (Ai hP (Gt H5.out.2 hg))
    clear hP hg
    obtain ⟨aN, cN, rfl, -⟩ := own_shape hown
    have HNo := Hd hown
    clear hown
    generalize namesD (lastOf 1 T) false (s1) = Q at *
    obtain ⟨ns, s2⟩ := Q
    replace HBq := Hd (boxw_grown HBq.out HG6.out (by omega))
    have q4 : w6.cell? ⟨W.heap.size, 4, none⟩ = some _ := HBq.out.1 4 _ rfl
    have z4 : w6.frozen? ⟨W.heap.size, 4, none⟩ = false := HBq.out.2 4
    go_wp2_with fail
    have HBn := Hd (show BoxW (w6.setCell ⟨W.heap.size, 4, none⟩ (.slice aN ns.length cN)) W.heap.size [.int .i64 0, .string (tx y.1.t), .bool false, .int .u64 0, .slice aN ns.length cN, .int .i64 0, .string ⟨#[]⟩, .bool false, .int .u64 0, .slice none 0 0, .slice none 0 0, .slice none 0 0, .slice none 0 0] from (HBq.out).set 4 (show 4 < 13 by decide) (.slice aN ns.length cN))
    have H7 := Hd (Ai (show PAt (w6.setCell ⟨W.heap.size, 4, none⟩ (.slice aN ns.length cN)) b T (s2) from (H6.out.1).over (show b < W.heap.size by omega) _) (show W.grownBy (w6.setCell ⟨W.heap.size, 4, none⟩ (.slice aN ns.length cN)) (some b) from (grown_new H6.out.2 (show W.heap.size ≤ W.heap.size by omega) _)))
    have HK7 := Hd (show ∀ lo hi, W.heap.size < lo → Kp lo hi w6 (w6.setCell ⟨W.heap.size, 4, none⟩ (.slice aN ns.length cN)) from fun lo hi h => (Kp.set _ _ _ _ (Or.inl h)))
    have hsz7 : w6.heap.size ≤ (w6.setCell ⟨W.heap.size, 4, none⟩ (.slice aN ns.length cN)).heap.size := by simp
    have HRn := Hd (own_o HNo.out (set_grown _ W.heap.size 4 (.slice aN ns.length cN)) (fun g e e2 => by have := (HNo.out.lt g e).1; have := Oi e2; omega))
    clear HNo
    have HNo := HRn
    clear HRn
    clear HBq q4 z4
    have HBq := HBn
    clear HBn
    generalize (w6.setCell ⟨W.heap.size, 4, none⟩ (.slice aN ns.length cN)) = w7 at *
    refine (dneed_any b T (s2) [45, 62] w7 H7.out.1).mono ?_
    rintro e w8 ⟨rfl, hP, hg⟩
    have HG8 := Hd hg
    have hsz8 : w7.heap.size ≤ w8.heap.size := hg.size
    have H8 := Hd (Ai hP (Gt H7.out.2 hg))
    clear hP hg
    replace HBq := Hd (boxw_grown HBq.out HG8.out (by omega))
    have HNn := Hd (own_kept HNo.out HG8.out (fun e => by have := (HNo.out.lt b e).1; omega))
    clear HNo
    have HNo := HNn
    clear HNn
    go_wp2_with fail
    refine (show Calls Tryz.prog 102 #[.pointer (some ⟨b, 0, none⟩), .int .i64 (201 - (k : Int))] w8 _ from hEx (needD (lastOf 1 T) [45, 62] (s2)) w8 H8.out.1).mono ?_
    rintro e w9 ⟨⟨k0, nm, f, u, vp, vk, vb, va, rfl, hat⟩, hP, hg⟩
    have HG9 := Hd hg
    have hsz9 : w8.heap.size ≤ w9.heap.size := hg.size
    have H9 := Hd (Ai hP (Gt H8.out.2 hg))
    clear hP hg
    obtain ⟨⟨ap, np, cp, rfl⟩, ⟨ak, nk, ck, rfl⟩, ⟨ab, nb, cb, rfl⟩, ⟨a5, n5, c5, rfl⟩⟩ := hat.slices
    have HAx := Hd hat
    clear hat
    generalize (exprD (lastOf 1 T) k) (needD (lastOf 1 T) [45, 62] (s2)) = Q at *
    obtain ⟨x, s3⟩ := Q
    replace HBq := Hd (boxw_grown HBq.out HG9.out (by omega))
    have HNn := Hd (own_kept HNo.out HG9.out (fun e => by have := (HNo.out.lt b e).1; omega))
    clear HNo
    have HNo := HNn
    clear HNn
    have q5 : w9.cell? ⟨W.heap.size, 5, none⟩ = some _ := HBq.out.1 5 _ rfl
    have z5 : w9.frozen? ⟨W.heap.size, 5, none⟩ = false := HBq.out.2 5
    have q6 : w9.cell? ⟨W.heap.size, 6, none⟩ = some _ := HBq.out.1 6 _ rfl
    have z6 : w9.frozen? ⟨W.heap.size, 6, none⟩ = false := HBq.out.2 6
    have q7 : w9.cell? ⟨W.heap.size, 7, none⟩ = some _ := HBq.out.1 7 _ rfl
    have z7 : w9.frozen? ⟨W.heap.size, 7, none⟩ = false := HBq.out.2 7
    have q8 : w9.cell? ⟨W.heap.size, 8, none⟩ = some _ := HBq.out.1 8 _ rfl
    have z8 : w9.frozen? ⟨W.heap.size, 8, none⟩ = false := HBq.out.2 8
    have q9 : w9.cell? ⟨W.heap.size, 9, none⟩ = some _ := HBq.out.1 9 _ rfl
    have z9 : w9.frozen? ⟨W.heap.size, 9, none⟩ = false := HBq.out.2 9
    have q10 : w9.cell? ⟨W.heap.size, 10, none⟩ = some _ := HBq.out.1 10 _ rfl
    have z10 : w9.frozen? ⟨W.heap.size, 10, none⟩ = false := HBq.out.2 10
    have q11 : w9.cell? ⟨W.heap.size, 11, none⟩ = some _ := HBq.out.1 11 _ rfl
    have z11 : w9.frozen? ⟨W.heap.size, 11, none⟩ = false := HBq.out.2 11
    have q12 : w9.cell? ⟨W.heap.size, 12, none⟩ = some _ := HBq.out.1 12 _ rfl
    have z12 : w9.frozen? ⟨W.heap.size, 12, none⟩ = false := HBq.out.2 12
    go_upto_region 14 with fail
    obtain ⟨w10, hq⟩ : ∃ q, q = ((((((((w9.setCell ⟨W.heap.size, 5, none⟩ (.int .i64 k0)).setCell ⟨W.heap.size, 6, none⟩ (.string nm)).setCell ⟨W.heap.size, 7, none⟩ (.bool f)).setCell ⟨W.heap.size, 8, none⟩ (.int .u64 u)).setCell ⟨W.heap.size, 9, none⟩ (.slice ap np cp)).setCell ⟨W.heap.size, 10, none⟩ (.slice ak nk ck)).setCell ⟨W.heap.size, 11, none⟩ (.slice ab nb cb)).setCell ⟨W.heap.size, 12, none⟩ (.slice a5 n5 c5)) := ⟨_, rfl⟩
    have HBn := Hd (show BoxW w10 W.heap.size [.int .i64 0, .string (tx y.1.t), .bool false, .int .u64 0, .slice aN ns.length cN, .int .i64 k0, .string nm, .bool f, .int .u64 u, .slice ap np cp, .slice ak nk ck, .slice ab nb cb, .slice a5 n5 c5] by subst hq; exact ((HBq.out)).b13_5_8)
    have H10 := Hd (Ai (show PAt w10 b T (s3) by subst hq; exact (H9.out.1).o8 (show b < W.heap.size by omega)) (show W.grownBy w10 (some b) by subst hq; exact (gn8 H9.out.2 (show W.heap.size ≤ W.heap.size by omega))))
    have HK10 := Hd (show ∀ lo hi, W.heap.size < lo → Kp lo hi w9 w10 by subst hq; exact fun lo hi h => ((Kp.s8 (Or.inl h))))
    have hsz10 : w9.heap.size ≤ w10.heap.size := by subst hq; simp
    have HRn := Hd (own_o (own_o (own_o (own_o (own_o (own_o (own_o (own_o HNo.out (set_grown _ W.heap.size 5 (.int .i64 k0)) (fun g e e2 => by have := (HNo.out.lt g e).1; have := Oi e2; omega)) (set_grown _ W.heap.size 6 (.string nm)) (fun g e e2 => by have := (HNo.out.lt g e).1; have := Oi e2; omega)) (set_grown _ W.heap.size 7 (.bool f)) (fun g e e2 => by have := (HNo.out.lt g e).1; have := Oi e2; omega)) (set_grown _ W.heap.size 8 (.int .u64 u)) (fun g e e2 => by have := (HNo.out.lt g e).1; have := Oi e2; omega)) (set_grown _ W.heap.size 9 (.slice ap np cp)) (fun g e e2 => by have := (HNo.out.lt g e).1; have := Oi e2; omega)) (set_grown _ W.heap.size 10 (.slice ak nk ck)) (fun g e e2 => by have := (HNo.out.lt g e).1; have := Oi e2; omega)) (set_grown _ W.heap.size 11 (.slice ab nb cb)) (fun g e e2 => by have := (HNo.out.lt g e).1; have := Oi e2; omega)) (set_grown _ W.heap.size 12 (.slice a5 n5 c5)) (fun g e e2 => by have := (HNo.out.lt g e).1; have := Oi e2; omega))
    rw [← hq] at HRn
    clear HNo
    have HNo := HRn
    clear HRn
    clear HBq q5 z5 q6 z6 q7 z7 q8 z8 q9 z9 q10 z10 q11 z11 q12 z12
    have HBq := HBn
    clear HBn
    rw [← hq]
    clear hq
    have HPv := Hd (show altD (lastOf 1 T) (exprD (lastOf 1 T) k) s = ((0, y.1.t, false, 0, ns, x), s3) from HPu.out)
    obtain ⟨q0, q1, q2, q3, q4, q5, q6, q7, q8, q9, q10, q11, q12⟩ := (HBq.out).q13
    have hBp := boxw_grown HX.out.2 H10.out.2 (by omega)
    obtain ⟨d0, d1, d2, d3, d4, d5, d6, d7, d8, d9, d10, d11, d12⟩ := (hBp).q13
    obtain ⟨z0, z1, z2, z3, z4, z5, z6, z7, z8, z9, z10, z11, z12⟩ := (hBp).z13
    have HBp := Hd hBp
    clear hBp
    go_wp2_with fail
    have hF := ((HBp.out).b13v (.int .i64 0) (.string (tx y.1.t)) (.bool false) (.int .u64 0) (.slice aN ns.length cN) (.int .i64 k0) (.string nm) (.bool f) (.int .u64 u) (.slice ap np cp) (.slice ak nk ck) (.slice ab nb cb) (.slice a5 n5 c5))
    have v0 := hF.1 0 _ rfl
    have v1 := hF.1 1 _ rfl
    have v2 := hF.1 2 _ rfl
    have v3 := hF.1 3 _ rfl
    have v4 := hF.1 4 _ rfl
    have v5 := hF.1 5 _ rfl
    have v6 := hF.1 6 _ rfl
    have v7 := hF.1 7 _ rfl
    have v8 := hF.1 8 _ rfl
    have v9 := hF.1 9 _ rfl
    have v10 := hF.1 10 _ rfl
    have v11 := hF.1 11 _ rfl
    have v12 := hF.1 12 _ rfl
    refine bodyPost_ret (v := .agg #[.int .i64 0, .string (tx y.1.t), .bool false, .int .u64 0, .slice aN ns.length cN, .int .i64 k0, .string nm, .bool f, .int .u64 u, .slice ap np cp, .slice ak nk ck, .slice ab nb cb, .slice a5 n5 c5]) (by simp [results, Tryz.results149, go_sem, v0, v1, v2, v3, v4, v5, v6, v7, v8, v9, v10, v11, v12]) rfl ?_
    rw [HPv.out]
    refine ⟨⟨.slice aN ns.length cN, _, _, _, _, _, _, _, _, rfl, (RowAt.own HNo.out).kp (lo' := w.heap.size) ((Kp.s13 (Or.inl (by omega)))) (by omega), HAx.out.kp (lo' := w.heap.size) ((HK10.out _ _ (by omega)).trans ((Kp.s13 (Or.inl (by omega))))) (by omega)⟩, (((((((((((((H10.out.1).over hlt _).over hlt _).over hlt _).over hlt _).over hlt _).over hlt _).over hlt _).over hlt _).over hlt _).over hlt _).over hlt _).over hlt _).over hlt _, (grown_new (grown_new (grown_new (grown_new (grown_new (grown_new (grown_new (grown_new (grown_new (grown_new (grown_new (grown_new (grown_new (Gt (grown_of (b := b) HX.out.1) H10.out.2) Nr _) Nr _) Nr _) Nr _) Nr _) Nr _) Nr _) Nr _) Nr _) Nr _) Nr _) Nr _) Nr _)⟩
  have HN2 := Hd hk
  have k2 : (kindL s.r == 2) = false := by simp [hk]
  clear hk
  by_cases hk : kindL s.r = 3
  · have kk : (kindL s.r == 3) = true := by simp [hk]
    have HPu := Hd (show altD (lastOf 1 T) (exprD (lastOf 1 T) k) s = _ from (if_neg HN2.out).trans (if_pos hk))
    clear hk
    have q0 : w2.cell? ⟨W.heap.size, 0, none⟩ = some _ := HBq.out.1 0 _ rfl
    have z0 : w2.frozen? ⟨W.heap.size, 0, none⟩ = false := HBq.out.2 0
    go_wp2_with fail
    have HBn := Hd (show BoxW (w2.setCell ⟨W.heap.size, 0, none⟩ (.int .i64 1)) W.heap.size [.int .i64 1, .string ⟨#[]⟩, .bool false, .int .u64 0, .slice none 0 0, .int .i64 0, .string ⟨#[]⟩, .bool false, .int .u64 0, .slice none 0 0, .slice none 0 0, .slice none 0 0, .slice none 0 0] from (HBq.out).set 0 (show 0 < 13 by decide) (.int .i64 1))
    have H3 := Hd (Ai (show PAt (w2.setCell ⟨W.heap.size, 0, none⟩ (.int .i64 1)) b T (s) from (H2.out.1).over (show b < W.heap.size by omega) _) (show W.grownBy (w2.setCell ⟨W.heap.size, 0, none⟩ (.int .i64 1)) (some b) from (grown_new H2.out.2 (show W.heap.size ≤ W.heap.size by omega) _)))
    have HK3 := Hd (show ∀ lo hi, W.heap.size < lo → Kp lo hi w2 (w2.setCell ⟨W.heap.size, 0, none⟩ (.int .i64 1)) from fun lo hi h => (Kp.set _ _ _ _ (Or.inl h)))
    have hsz3 : w2.heap.size ≤ (w2.setCell ⟨W.heap.size, 0, none⟩ (.int .i64 1)).heap.size := by simp
    clear HBq q0 z0
    have HBq := HBn
    clear HBn
    generalize (w2.setCell ⟨W.heap.size, 0, none⟩ (.int .i64 1)) = w3 at *
    refine (dtok_any b T (s) 3 (by decide) w3 H3.out.1).mono ?_
    rintro e w4 ⟨hv, hP, hg⟩
    have HG4 := Hd hg
    have hsz4 : w3.heap.size ≤ w4.heap.size := hg.size
    have H4 := Hd (Ai hP (Gt H3.out.2 hg))
    clear hP hg
    unfold TokV at hv
    subst hv
    generalize tokD (lastOf 1 T) 3 (s) = Q at *
    obtain ⟨y, s1⟩ := Q
    have hf1 := fun W => tok_field1 y.1.k (tx y.1.t) y.1.f y.1.x y.2 W
    have hf2 := fun W => tok_field2 y.1.k (tx y.1.t) y.1.f y.1.x y.2 W
    replace HBq := Hd (boxw_grown HBq.out HG4.out (by omega))
    have q2 : w4.cell? ⟨W.heap.size, 2, none⟩ = some _ := HBq.out.1 2 _ rfl
    have z2 : w4.frozen? ⟨W.heap.size, 2, none⟩ = false := HBq.out.2 2
    have q3 : w4.cell? ⟨W.heap.size, 3, none⟩ = some _ := HBq.out.1 3 _ rfl
    have z3 : w4.frozen? ⟨W.heap.size, 3, none⟩ = false := HBq.out.2 3
    go_wp2_with fail
    have HBn := Hd (show BoxW ((w4.setCell ⟨W.heap.size, 2, none⟩ (.bool y.1.f)).setCell ⟨W.heap.size, 3, none⟩ (.int .u64 y.1.x)) W.heap.size [.int .i64 1, .string ⟨#[]⟩, .bool y.1.f, .int .u64 y.1.x, .slice none 0 0, .int .i64 0, .string ⟨#[]⟩, .bool false, .int .u64 0, .slice none 0 0, .slice none 0 0, .slice none 0 0, .slice none 0 0] from ((HBq.out)).b13_2_2)
    have H5 := Hd (Ai (show PAt ((w4.setCell ⟨W.heap.size, 2, none⟩ (.bool y.1.f)).setCell ⟨W.heap.size, 3, none⟩ (.int .u64 y.1.x)) b T (s1) from (H4.out.1).o2 (show b < W.heap.size by omega)) (show W.grownBy ((w4.setCell ⟨W.heap.size, 2, none⟩ (.bool y.1.f)).setCell ⟨W.heap.size, 3, none⟩ (.int .u64 y.1.x)) (some b) from (gn2 H4.out.2 (show W.heap.size ≤ W.heap.size by omega))))
    have HK5 := Hd (show ∀ lo hi, W.heap.size < lo → Kp lo hi w4 ((w4.setCell ⟨W.heap.size, 2, none⟩ (.bool y.1.f)).setCell ⟨W.heap.size, 3, none⟩ (.int .u64 y.1.x)) from fun lo hi h => ((Kp.s2 (Or.inl h))))
    have hsz5 : w4.heap.size ≤ ((w4.setCell ⟨W.heap.size, 2, none⟩ (.bool y.1.f)).setCell ⟨W.heap.size, 3, none⟩ (.int .u64 y.1.x)).heap.size := by simp
    clear HBq q2 z2 q3 z3
    have HBq := HBn
    clear HBn
    generalize ((w4.setCell ⟨W.heap.size, 2, none⟩ (.bool y.1.f)).setCell ⟨W.heap.size, 3, none⟩ (.int .u64 y.1.x)) = w5 at *
    clear hf1 hf2
    refine (dneed_any b T (s1) [45, 62] w5 H5.out.1).mono ?_
    rintro e w6 ⟨rfl, hP, hg⟩
    have HG6 := Hd hg
    have hsz6 : w5.heap.size ≤ w6.heap.size := hg.size
    have H6 := Hd (Ai hP (Gt H5.out.2 hg))
    clear hP hg
    replace HBq := Hd (boxw_grown HBq.out HG6.out (by omega))
    go_wp2_with fail
    refine (show Calls Tryz.prog 102 #[.pointer (some ⟨b, 0, none⟩), .int .i64 (201 - (k : Int))] w6 _ from hEx (needD (lastOf 1 T) [45, 62] (s1)) w6 H6.out.1).mono ?_
    rintro e w7 ⟨⟨k0, nm, f, u, vp, vk, vb, va, rfl, hat⟩, hP, hg⟩
    have HG7 := Hd hg
    have hsz7 : w6.heap.size ≤ w7.heap.size := hg.size
    have H7 := Hd (Ai hP (Gt H6.out.2 hg))
    clear hP hg
    obtain ⟨⟨ap, np, cp, rfl⟩, ⟨ak, nk, ck, rfl⟩, ⟨ab, nb, cb, rfl⟩, ⟨a5, n5, c5, rfl⟩⟩ := hat.slices
    have HAx := Hd hat
    clear hat
    generalize (exprD (lastOf 1 T) k) (needD (lastOf 1 T) [45, 62] (s1)) = Q at *
    obtain ⟨x, s3⟩ := Q
    replace HBq := Hd (boxw_grown HBq.out HG7.out (by omega))
    have q5 : w7.cell? ⟨W.heap.size, 5, none⟩ = some _ := HBq.out.1 5 _ rfl
    have z5 : w7.frozen? ⟨W.heap.size, 5, none⟩ = false := HBq.out.2 5
    have q6 : w7.cell? ⟨W.heap.size, 6, none⟩ = some _ := HBq.out.1 6 _ rfl
    have z6 : w7.frozen? ⟨W.heap.size, 6, none⟩ = false := HBq.out.2 6
    have q7 : w7.cell? ⟨W.heap.size, 7, none⟩ = some _ := HBq.out.1 7 _ rfl
    have z7 : w7.frozen? ⟨W.heap.size, 7, none⟩ = false := HBq.out.2 7
    have q8 : w7.cell? ⟨W.heap.size, 8, none⟩ = some _ := HBq.out.1 8 _ rfl
    have z8 : w7.frozen? ⟨W.heap.size, 8, none⟩ = false := HBq.out.2 8
    have q9 : w7.cell? ⟨W.heap.size, 9, none⟩ = some _ := HBq.out.1 9 _ rfl
    have z9 : w7.frozen? ⟨W.heap.size, 9, none⟩ = false := HBq.out.2 9
    have q10 : w7.cell? ⟨W.heap.size, 10, none⟩ = some _ := HBq.out.1 10 _ rfl
    have z10 : w7.frozen? ⟨W.heap.size, 10, none⟩ = false := HBq.out.2 10
    have q11 : w7.cell? ⟨W.heap.size, 11, none⟩ = some _ := HBq.out.1 11 _ rfl
    have z11 : w7.frozen? ⟨W.heap.size, 11, none⟩ = false := HBq.out.2 11
    have q12 : w7.cell? ⟨W.heap.size, 12, none⟩ = some _ := HBq.out.1 12 _ rfl
    have z12 : w7.frozen? ⟨W.heap.size, 12, none⟩ = false := HBq.out.2 12
    go_upto_region 14 with fail
    obtain ⟨w8, hq⟩ : ∃ q, q = ((((((((w7.setCell ⟨W.heap.size, 5, none⟩ (.int .i64 k0)).setCell ⟨W.heap.size, 6, none⟩ (.string nm)).setCell ⟨W.heap.size, 7, none⟩ (.bool f)).setCell ⟨W.heap.size, 8, none⟩ (.int .u64 u)).setCell ⟨W.heap.size, 9, none⟩ (.slice ap np cp)).setCell ⟨W.heap.size, 10, none⟩ (.slice ak nk ck)).setCell ⟨W.heap.size, 11, none⟩ (.slice ab nb cb)).setCell ⟨W.heap.size, 12, none⟩ (.slice a5 n5 c5)) := ⟨_, rfl⟩
    have HBn := Hd (show BoxW w8 W.heap.size [.int .i64 1, .string ⟨#[]⟩, .bool y.1.f, .int .u64 y.1.x, .slice none 0 0, .int .i64 k0, .string nm, .bool f, .int .u64 u, .slice ap np cp, .slice ak nk ck, .slice ab nb cb, .slice a5 n5 c5] by subst hq; exact ((HBq.out)).b13_5_8)
    have H8 := Hd (Ai (show PAt w8 b T (s3) by subst hq; exact (H7.out.1).o8 (show b < W.heap.size by omega)) (show W.grownBy w8 (some b) by subst hq; exact (gn8 H7.out.2 (show W.heap.size ≤ W.heap.size by omega))))
    have HK8 := Hd (show ∀ lo hi, W.heap.size < lo → Kp lo hi w7 w8 by subst hq; exact fun lo hi h => ((Kp.s8 (Or.inl h))))
    have hsz8 : w7.heap.size ≤ w8.heap.size := by subst hq; simp
    clear HBq q5 z5 q6 z6 q7 z7 q8 z8 q9 z9 q10 z10 q11 z11 q12 z12
    have HBq := HBn
    clear HBn
    rw [← hq]
    clear hq
    have HPv := Hd (show altD (lastOf 1 T) (exprD (lastOf 1 T) k) s = ((1, [], y.1.f, y.1.x, [], x), s3) from HPu.out)
    obtain ⟨q0, q1, q2, q3, q4, q5, q6, q7, q8, q9, q10, q11, q12⟩ := (HBq.out).q13
    have hBp := boxw_grown HX.out.2 H8.out.2 (by omega)
    obtain ⟨d0, d1, d2, d3, d4, d5, d6, d7, d8, d9, d10, d11, d12⟩ := (hBp).q13
    obtain ⟨z0, z1, z2, z3, z4, z5, z6, z7, z8, z9, z10, z11, z12⟩ := (hBp).z13
    have HBp := Hd hBp
    clear hBp
    go_wp2_with fail
    have hF := ((HBp.out).b13v (.int .i64 1) (.string ⟨#[]⟩) (.bool y.1.f) (.int .u64 y.1.x) (.slice none 0 0) (.int .i64 k0) (.string nm) (.bool f) (.int .u64 u) (.slice ap np cp) (.slice ak nk ck) (.slice ab nb cb) (.slice a5 n5 c5))
    have v0 := hF.1 0 _ rfl
    have v1 := hF.1 1 _ rfl
    have v2 := hF.1 2 _ rfl
    have v3 := hF.1 3 _ rfl
    have v4 := hF.1 4 _ rfl
    have v5 := hF.1 5 _ rfl
    have v6 := hF.1 6 _ rfl
    have v7 := hF.1 7 _ rfl
    have v8 := hF.1 8 _ rfl
    have v9 := hF.1 9 _ rfl
    have v10 := hF.1 10 _ rfl
    have v11 := hF.1 11 _ rfl
    have v12 := hF.1 12 _ rfl
    refine bodyPost_ret (v := .agg #[.int .i64 1, .string ⟨#[]⟩, .bool y.1.f, .int .u64 y.1.x, .slice none 0 0, .int .i64 k0, .string nm, .bool f, .int .u64 u, .slice ap np cp, .slice ak nk ck, .slice ab nb cb, .slice a5 n5 c5]) (by simp [results, Tryz.results149, go_sem, v0, v1, v2, v3, v4, v5, v6, v7, v8, v9, v10, v11, v12]) rfl ?_
    rw [HPv.out]
    refine ⟨⟨.slice none 0 0, _, _, _, _, _, _, _, _, rfl, RowAt.nil _ _ _ _, HAx.out.kp (lo' := w.heap.size) ((HK8.out _ _ (by omega)).trans ((Kp.s13 (Or.inl (by omega))))) (by omega)⟩, (((((((((((((H8.out.1).over hlt _).over hlt _).over hlt _).over hlt _).over hlt _).over hlt _).over hlt _).over hlt _).over hlt _).over hlt _).over hlt _).over hlt _).over hlt _, (grown_new (grown_new (grown_new (grown_new (grown_new (grown_new (grown_new (grown_new (grown_new (grown_new (grown_new (grown_new (grown_new (Gt (grown_of (b := b) HX.out.1) H8.out.2) Nr _) Nr _) Nr _) Nr _) Nr _) Nr _) Nr _) Nr _) Nr _) Nr _) Nr _) Nr _) Nr _)⟩
  · have k3 : (kindL s.r == 3) = false := by simp [hk]
    have HPu := Hd (show altD (lastOf 1 T) (exprD (lastOf 1 T) k) s = _ from (if_neg HN2.out).trans (if_neg hk))
    clear hk
    have q0 : w2.cell? ⟨W.heap.size, 0, none⟩ = some _ := HBq.out.1 0 _ rfl
    have z0 : w2.frozen? ⟨W.heap.size, 0, none⟩ = false := HBq.out.2 0
    go_wp2_with fail
    have HBn := Hd (show BoxW (w2.setCell ⟨W.heap.size, 0, none⟩ (.int .i64 2)) W.heap.size [.int .i64 2, .string ⟨#[]⟩, .bool false, .int .u64 0, .slice none 0 0, .int .i64 0, .string ⟨#[]⟩, .bool false, .int .u64 0, .slice none 0 0, .slice none 0 0, .slice none 0 0, .slice none 0 0] from (HBq.out).set 0 (show 0 < 13 by decide) (.int .i64 2))
    have H3 := Hd (Ai (show PAt (w2.setCell ⟨W.heap.size, 0, none⟩ (.int .i64 2)) b T (s) from (H2.out.1).over (show b < W.heap.size by omega) _) (show W.grownBy (w2.setCell ⟨W.heap.size, 0, none⟩ (.int .i64 2)) (some b) from (grown_new H2.out.2 (show W.heap.size ≤ W.heap.size by omega) _)))
    have HK3 := Hd (show ∀ lo hi, W.heap.size < lo → Kp lo hi w2 (w2.setCell ⟨W.heap.size, 0, none⟩ (.int .i64 2)) from fun lo hi h => (Kp.set _ _ _ _ (Or.inl h)))
    have hsz3 : w2.heap.size ≤ (w2.setCell ⟨W.heap.size, 0, none⟩ (.int .i64 2)).heap.size := by simp
    clear HBq q0 z0
    have HBq := HBn
    clear HBn
    generalize (w2.setCell ⟨W.heap.size, 0, none⟩ (.int .i64 2)) = w3 at *
    refine (dtok_any b T (s) 1 (by decide) w3 H3.out.1).mono ?_
    rintro e w4 ⟨hv, hP, hg⟩
    have HG4 := Hd hg
    have hsz4 : w3.heap.size ≤ w4.heap.size := hg.size
    have H4 := Hd (Ai hP (Gt H3.out.2 hg))
    clear hP hg
    unfold TokV at hv
    subst hv
    generalize tokD (lastOf 1 T) 1 (s) = Q at *
    obtain ⟨y, s1⟩ := Q
    have hf1 := fun W => tok_field1 y.1.k (tx y.1.t) y.1.f y.1.x y.2 W
    have hf2 := fun W => tok_field2 y.1.k (tx y.1.t) y.1.f y.1.x y.2 W
    replace HBq := Hd (boxw_grown HBq.out HG4.out (by omega))
    have q1 : w4.cell? ⟨W.heap.size, 1, none⟩ = some _ := HBq.out.1 1 _ rfl
    have z1 : w4.frozen? ⟨W.heap.size, 1, none⟩ = false := HBq.out.2 1
    go_wp2_with fail
    have HBn := Hd (show BoxW (w4.setCell ⟨W.heap.size, 1, none⟩ (.string (tx y.1.t))) W.heap.size [.int .i64 2, .string (tx y.1.t), .bool false, .int .u64 0, .slice none 0 0, .int .i64 0, .string ⟨#[]⟩, .bool false, .int .u64 0, .slice none 0 0, .slice none 0 0, .slice none 0 0, .slice none 0 0] from (HBq.out).set 1 (show 1 < 13 by decide) (.string (tx y.1.t)))
    have H5 := Hd (Ai (show PAt (w4.setCell ⟨W.heap.size, 1, none⟩ (.string (tx y.1.t))) b T (s1) from (H4.out.1).over (show b < W.heap.size by omega) _) (show W.grownBy (w4.setCell ⟨W.heap.size, 1, none⟩ (.string (tx y.1.t))) (some b) from (grown_new H4.out.2 (show W.heap.size ≤ W.heap.size by omega) _)))
    have HK5 := Hd (show ∀ lo hi, W.heap.size < lo → Kp lo hi w4 (w4.setCell ⟨W.heap.size, 1, none⟩ (.string (tx y.1.t))) from fun lo hi h => (Kp.set _ _ _ _ (Or.inl h)))
    have hsz5 : w4.heap.size ≤ (w4.setCell ⟨W.heap.size, 1, none⟩ (.string (tx y.1.t))).heap.size := by simp
    clear HBq q1 z1
    have HBq := HBn
    clear HBn
    generalize (w4.setCell ⟨W.heap.size, 1, none⟩ (.string (tx y.1.t))) = w5 at *
    clear hf1 hf2
    refine (dneed_any b T (s1) [45, 62] w5 H5.out.1).mono ?_
    rintro e w6 ⟨rfl, hP, hg⟩
    have HG6 := Hd hg
    have hsz6 : w5.heap.size ≤ w6.heap.size := hg.size
    have H6 := Hd (Ai hP (Gt H5.out.2 hg))
    clear hP hg
    replace HBq := Hd (boxw_grown HBq.out HG6.out (by omega))
    go_wp2_with fail
    refine (show Calls Tryz.prog 102 #[.pointer (some ⟨b, 0, none⟩), .int .i64 (201 - (k : Int))] w6 _ from hEx (needD (lastOf 1 T) [45, 62] (s1)) w6 H6.out.1).mono ?_
    rintro e w7 ⟨⟨k0, nm, f, u, vp, vk, vb, va, rfl, hat⟩, hP, hg⟩
    have HG7 := Hd hg
    have hsz7 : w6.heap.size ≤ w7.heap.size := hg.size
    have H7 := Hd (Ai hP (Gt H6.out.2 hg))
    clear hP hg
    obtain ⟨⟨ap, np, cp, rfl⟩, ⟨ak, nk, ck, rfl⟩, ⟨ab, nb, cb, rfl⟩, ⟨a5, n5, c5, rfl⟩⟩ := hat.slices
    have HAx := Hd hat
    clear hat
    generalize (exprD (lastOf 1 T) k) (needD (lastOf 1 T) [45, 62] (s1)) = Q at *
    obtain ⟨x, s3⟩ := Q
    replace HBq := Hd (boxw_grown HBq.out HG7.out (by omega))
    have q5 : w7.cell? ⟨W.heap.size, 5, none⟩ = some _ := HBq.out.1 5 _ rfl
    have z5 : w7.frozen? ⟨W.heap.size, 5, none⟩ = false := HBq.out.2 5
    have q6 : w7.cell? ⟨W.heap.size, 6, none⟩ = some _ := HBq.out.1 6 _ rfl
    have z6 : w7.frozen? ⟨W.heap.size, 6, none⟩ = false := HBq.out.2 6
    have q7 : w7.cell? ⟨W.heap.size, 7, none⟩ = some _ := HBq.out.1 7 _ rfl
    have z7 : w7.frozen? ⟨W.heap.size, 7, none⟩ = false := HBq.out.2 7
    have q8 : w7.cell? ⟨W.heap.size, 8, none⟩ = some _ := HBq.out.1 8 _ rfl
    have z8 : w7.frozen? ⟨W.heap.size, 8, none⟩ = false := HBq.out.2 8
    have q9 : w7.cell? ⟨W.heap.size, 9, none⟩ = some _ := HBq.out.1 9 _ rfl
    have z9 : w7.frozen? ⟨W.heap.size, 9, none⟩ = false := HBq.out.2 9
    have q10 : w7.cell? ⟨W.heap.size, 10, none⟩ = some _ := HBq.out.1 10 _ rfl
    have z10 : w7.frozen? ⟨W.heap.size, 10, none⟩ = false := HBq.out.2 10
    have q11 : w7.cell? ⟨W.heap.size, 11, none⟩ = some _ := HBq.out.1 11 _ rfl
    have z11 : w7.frozen? ⟨W.heap.size, 11, none⟩ = false := HBq.out.2 11
    have q12 : w7.cell? ⟨W.heap.size, 12, none⟩ = some _ := HBq.out.1 12 _ rfl
    have z12 : w7.frozen? ⟨W.heap.size, 12, none⟩ = false := HBq.out.2 12
    go_upto_region 14 with fail
    obtain ⟨w8, hq⟩ : ∃ q, q = ((((((((w7.setCell ⟨W.heap.size, 5, none⟩ (.int .i64 k0)).setCell ⟨W.heap.size, 6, none⟩ (.string nm)).setCell ⟨W.heap.size, 7, none⟩ (.bool f)).setCell ⟨W.heap.size, 8, none⟩ (.int .u64 u)).setCell ⟨W.heap.size, 9, none⟩ (.slice ap np cp)).setCell ⟨W.heap.size, 10, none⟩ (.slice ak nk ck)).setCell ⟨W.heap.size, 11, none⟩ (.slice ab nb cb)).setCell ⟨W.heap.size, 12, none⟩ (.slice a5 n5 c5)) := ⟨_, rfl⟩
    have HBn := Hd (show BoxW w8 W.heap.size [.int .i64 2, .string (tx y.1.t), .bool false, .int .u64 0, .slice none 0 0, .int .i64 k0, .string nm, .bool f, .int .u64 u, .slice ap np cp, .slice ak nk ck, .slice ab nb cb, .slice a5 n5 c5] by subst hq; exact ((HBq.out)).b13_5_8)
    have H8 := Hd (Ai (show PAt w8 b T (s3) by subst hq; exact (H7.out.1).o8 (show b < W.heap.size by omega)) (show W.grownBy w8 (some b) by subst hq; exact (gn8 H7.out.2 (show W.heap.size ≤ W.heap.size by omega))))
    have HK8 := Hd (show ∀ lo hi, W.heap.size < lo → Kp lo hi w7 w8 by subst hq; exact fun lo hi h => ((Kp.s8 (Or.inl h))))
    have hsz8 : w7.heap.size ≤ w8.heap.size := by subst hq; simp
    clear HBq q5 z5 q6 z6 q7 z7 q8 z8 q9 z9 q10 z10 q11 z11 q12 z12
    have HBq := HBn
    clear HBn
    rw [← hq]
    clear hq
    have HPv := Hd (show altD (lastOf 1 T) (exprD (lastOf 1 T) k) s = ((2, y.1.t, false, 0, [], x), s3) from HPu.out)
    obtain ⟨q0, q1, q2, q3, q4, q5, q6, q7, q8, q9, q10, q11, q12⟩ := (HBq.out).q13
    have hBp := boxw_grown HX.out.2 H8.out.2 (by omega)
    obtain ⟨d0, d1, d2, d3, d4, d5, d6, d7, d8, d9, d10, d11, d12⟩ := (hBp).q13
    obtain ⟨z0, z1, z2, z3, z4, z5, z6, z7, z8, z9, z10, z11, z12⟩ := (hBp).z13
    have HBp := Hd hBp
    clear hBp
    go_wp2_with fail
    have hF := ((HBp.out).b13v (.int .i64 2) (.string (tx y.1.t)) (.bool false) (.int .u64 0) (.slice none 0 0) (.int .i64 k0) (.string nm) (.bool f) (.int .u64 u) (.slice ap np cp) (.slice ak nk ck) (.slice ab nb cb) (.slice a5 n5 c5))
    have v0 := hF.1 0 _ rfl
    have v1 := hF.1 1 _ rfl
    have v2 := hF.1 2 _ rfl
    have v3 := hF.1 3 _ rfl
    have v4 := hF.1 4 _ rfl
    have v5 := hF.1 5 _ rfl
    have v6 := hF.1 6 _ rfl
    have v7 := hF.1 7 _ rfl
    have v8 := hF.1 8 _ rfl
    have v9 := hF.1 9 _ rfl
    have v10 := hF.1 10 _ rfl
    have v11 := hF.1 11 _ rfl
    have v12 := hF.1 12 _ rfl
    refine bodyPost_ret (v := .agg #[.int .i64 2, .string (tx y.1.t), .bool false, .int .u64 0, .slice none 0 0, .int .i64 k0, .string nm, .bool f, .int .u64 u, .slice ap np cp, .slice ak nk ck, .slice ab nb cb, .slice a5 n5 c5]) (by simp [results, Tryz.results149, go_sem, v0, v1, v2, v3, v4, v5, v6, v7, v8, v9, v10, v11, v12]) rfl ?_
    rw [HPv.out]
    refine ⟨⟨.slice none 0 0, _, _, _, _, _, _, _, _, rfl, RowAt.nil _ _ _ _, HAx.out.kp (lo' := w.heap.size) ((HK8.out _ _ (by omega)).trans ((Kp.s13 (Or.inl (by omega))))) (by omega)⟩, (((((((((((((H8.out.1).over hlt _).over hlt _).over hlt _).over hlt _).over hlt _).over hlt _).over hlt _).over hlt _).over hlt _).over hlt _).over hlt _).over hlt _).over hlt _, (grown_new (grown_new (grown_new (grown_new (grown_new (grown_new (grown_new (grown_new (grown_new (grown_new (grown_new (grown_new (grown_new (Gt (grown_of (b := b) HX.out.1) H8.out.2) Nr _) Nr _) Nr _) Nr _) Nr _) Nr _) Nr _) Nr _) Nr _) Nr _) Nr _) Nr _) Nr _)⟩
section
variable {ll : Int} {k : Nat} {s : St}
theorem expr_letD (he : s.e = 0) (h : seesL [108, 101, 116] s.r = true) : exprD ll (k + 1) s = letD ll (exprD ll k) s.next := by
  conv => lhs; unfold exprD
  rw [if_neg (fun h => h he), if_pos h]
theorem expr_caseD (he : s.e = 0) (h1 : seesL [108, 101, 116] s.r = false) (h : seesL [99, 97, 115, 101] s.r = true) : exprD ll (k + 1) s = caseD ll (exprD ll k) s.next := by
  conv => lhs; unfold exprD
  rw [if_neg (fun h => h he), if_neg (by rw [h1]; decide), if_pos h]
theorem expr_lamD (he : s.e = 0) (h1 : seesL [108, 101, 116] s.r = false) (h2 : seesL [99, 97, 115, 101] s.r = false) (h : seesL [92] s.r = true) : exprD ll (k + 1) s = lamD ll (exprD ll k) s.next := by
  conv => lhs; unfold exprD
  rw [if_neg (fun h => h he), if_neg (by rw [h1]; decide), if_neg (by rw [h2]; decide), if_pos h]
theorem expr_rowsD (he : s.e = 0) (h1 : seesL [108, 101, 116] s.r = false) (h2 : seesL [99, 97, 115, 101] s.r = false) (h : seesL [92] s.r = false) : exprD ll (k + 1) s = rowsD ll (exprD ll k) s := by
  conv => lhs; unfold exprD
  rw [if_neg (fun h => h he), if_neg (by rw [h1]; decide), if_neg (by rw [h2]; decide), if_neg (by rw [h]; decide)]
end
theorem dexpr_any (b : Nat) (T : List Tok) (k : Nat) (hEx : ExprDC b T k) (dd : Int) (hd : IntKind.i64.wrap (dd + 1) = 201 - (k : Int)) (hle : ¬ (200 : Int) < dd) (s : St) (hnl : s.e = 0 → seesL [108, 101, 116] s.r = false ∧ seesL [99, 97, 115, 101] s.r = false) (w : World) (hP : PAt w b T s) : Calls Tryz.prog 102 #[.pointer (some ⟨b, 0, none⟩), .int .i64 dd] w (DSaid b T (ExV w.heap.size) (exprD (lastOf 1 T) (k + 1) s) w) := by
  have hlt : b < w.heap.size := hP.lt
  have hx := (Below.refl w.heap.size w).alloc Nr (.cells #[.int .i64 0, .string ⟨#[]⟩, .bool false, .int .u64 0, .slice none 0 0, .slice none 0 0, .slice none 0 0, .slice none 0 0] 37)
  have HX := Hd (Ai hx (BoxW.alloc w #[.int .i64 0, .string ⟨#[]⟩, .bool false, .int .u64 0, .slice none 0 0, .slice none 0 0, .slice none 0 0, .slice none 0 0] 37))
  have H0 := Hd (Ai (hP.later hx) (grown_of (b := b) (Below.refl (w.alloc (.cells #[.int .i64 0, .string ⟨#[]⟩, .bool false, .int .u64 0, .slice none 0 0, .slice none 0 0, .slice none 0 0, .slice none 0 0] 37)).heap.size (w.alloc (.cells #[.int .i64 0, .string ⟨#[]⟩, .bool false, .int .u64 0, .slice none 0 0, .slice none 0 0, .slice none 0 0, .slice none 0 0] 37)))))
  have HT0 := Hd hP.n
  clear hx hP
  go_enter Tryz.func102, Tryz.ntmps102
  go_upto_region 1 with fail
  have hsz0 : w.heap.size + 1 ≤ (w.alloc (.cells #[.int .i64 0, .string ⟨#[]⟩, .bool false, .int .u64 0, .slice none 0 0, .slice none 0 0, .slice none 0 0, .slice none 0 0] 37)).heap.size := by simp
  generalize (w.alloc (.cells #[.int .i64 0, .string ⟨#[]⟩, .bool false, .int .u64 0, .slice none 0 0, .slice none 0 0, .slice none 0 0, .slice none 0 0] 37)) = W at *
  have c2 := H0.out.1.c2
  have HD := Hd hd
  by_cases ge : s.e = 0
  · have f0 : (s.e != 0) = false := by simp [ge]
    have HE0 := Hd ge
    clear ge
    have hc := dsees_any b T (s) [108, 101, 116] W H0.out.1
    have h1 := (hnl HE0.out).1
    have HNL := Hd (hnl HE0.out)
    clear hnl
    rw [h1] at hc
    have HC := Hd hc
    clear hc
    go_wp2_with fail
    refine HC.out.mono ?_
    rintro e w1 ⟨rfl, hb⟩
    have HG1 := Hd (grown_of (b := b) hb)
    have hsz1 : W.heap.size ≤ w1.heap.size := hb.size
    have H1 := Hd (Ai (H0.out.1.later hb) (Gt H0.out.2 HG1.out))
    clear HC hb
    have HL1 := Hd h1
    clear h1
    have hc := dsees_any b T (s) [99, 97, 115, 101] w1 H1.out.1
    have h1 := HNL.out.2
    rw [h1] at hc
    have HC := Hd hc
    clear hc
    go_wp2_with fail
    refine HC.out.mono ?_
    rintro e w2 ⟨rfl, hb⟩
    have HG2 := Hd (grown_of (b := b) hb)
    have hsz2 : w1.heap.size ≤ w2.heap.size := hb.size
    have H2 := Hd (Ai (H1.out.1.later hb) (Gt H1.out.2 HG2.out))
    clear HC hb
    have HL2 := Hd h1
    clear h1
    have hc := dsees_any b T (s) [92] w2 H2.out.1
    cases h1 : seesL [92] s.r with
    | true =>
      rw [h1] at hc
      have HC := Hd hc
      clear hc
      go_wp2_with fail
      refine HC.out.mono ?_
      rintro e w3 ⟨rfl, hb⟩
      have HG3 := Hd (grown_of (b := b) hb)
      have hsz3 : w2.heap.size ≤ w3.heap.size := hb.size
      have H3 := Hd (Ai (H2.out.1.later hb) (Gt H2.out.2 HG3.out))
      clear HC hb
      have HPu := Hd ((expr_lamD (ll := (lastOf 1 T)) (k := k) HE0.out HL1.out HL2.out h1).trans (show lamD (lastOf 1 T) (exprD (lastOf 1 T) k) s.next = (.mk 8 [] false 0 (namesD (lastOf 1 T) true s.next).1 [((exprD (lastOf 1 T) k) (needD (lastOf 1 T) [45, 62] (namesD (lastOf 1 T) true s.next).2)).1] [] [], ((exprD (lastOf 1 T) k) (needD (lastOf 1 T) [45, 62] (namesD (lastOf 1 T) true s.next).2)).2) from rfl))
      have HNE := Hd (sees_ne h1)
      clear h1
      obtain ⟨i, hiT, hir, c1⟩ := H3.out.1.c1
      have y1 := H3.out.1.z 1
      have hTn := HT0.out
      have ej : IntKind.i64.wrap ((i : Int) + 1) = (i : Int) + 1 := by rw [IntKind.wrap_i64]; omega
      have hP9 := H3.out.1.next c1 HNE.out
      have hgs := set_grown w3 b 1 (.int .i64 ((i : Int) + 1))
      have H4 := Hd (Ai hP9 (Gt H3.out.2 hgs))
      have HG4 := Hd hgs
      have hsz4 : w3.heap.size ≤ (w3.setCell ⟨b, 1, none⟩ (.int .i64 ((i : Int) + 1))).heap.size := by simp
      clear hir hiT hP9 hgs
      go_wp2_with fail
      generalize (w3.setCell ⟨b, 1, none⟩ (.int .i64 ((i : Int) + 1))) = w4 at *
      clear c1 y1
      refine (show Calls Tryz.prog 101 #[.pointer (some ⟨b, 0, none⟩), .int .i64 1] w4 (DSaid b T (NmsV w4.heap.size) (namesD (lastOf 1 T) true (s.next)) w4) from dnames_any b T (s.next) true w4 H4.out.1).mono ?_
      rintro e w5 ⟨⟨v, rfl, hown⟩, hP, hg⟩
      have HG5 := Hd hg
      have hsz5 : w4.heap.size ≤ w5.heap.size := hg.size
      have H5 := Hd (Ai hP (Gt H4.out.2 hg))
      clear hP hg
      obtain ⟨aN, cN, rfl, -⟩ := own_shape hown
      have HNo := Hd hown
      clear hown
      generalize namesD (lastOf 1 T) true (s.next) = Q at *
      obtain ⟨ns, s2⟩ := Q
      have HNl := Hd (show ∀ q, (Value.slice aN ns.length cN).ownBlock = some q → q < w5.heap.size from fun q e => (HNo.out.lt q e).2)
      have hy := (Below.refl w5.heap.size w5).alloc Nr (.cells #[.int .i64 8, .string ⟨#[]⟩, .bool false, .int .u64 0, .slice aN ns.length cN, .slice none 0 0, .slice none 0 0, .slice none 0 0] 37)
      have HBq := Hd (BoxW.alloc w5 #[.int .i64 8, .string ⟨#[]⟩, .bool false, .int .u64 0, .slice aN ns.length cN, .slice none 0 0, .slice none 0 0, .slice none 0 0] 37)
      have HG6 := Hd (grown_of (b := b) hy)
      have hsz6 : w5.heap.size + 1 ≤ (w5.alloc (.cells #[.int .i64 8, .string ⟨#[]⟩, .bool false, .int .u64 0, .slice aN ns.length cN, .slice none 0 0, .slice none 0 0, .slice none 0 0] 37)).heap.size := by simp
      have H6 := Hd (Ai (H5.out.1.later hy) (Gt H5.out.2 HG6.out))
      have HRn := Hd (own_below HNo.out hy)
      clear HNo
      have HNo := HRn
      clear HRn
      clear hy
      go_upto_region 22 with fail
      generalize (w5.alloc (.cells #[.int .i64 8, .string ⟨#[]⟩, .bool false, .int .u64 0, .slice aN ns.length cN, .slice none 0 0, .slice none 0 0, .slice none 0 0] 37)) = w6 at *
      go_wp2_with fail
      refine (dneed_any b T (s2) [45, 62] w6 H6.out.1).mono ?_
      rintro e w7 ⟨rfl, hP, hg⟩
      have HG7 := Hd hg
      have hsz7 : w6.heap.size ≤ w7.heap.size := hg.size
      have H7 := Hd (Ai hP (Gt H6.out.2 hg))
      clear hP hg
      replace HBq := Hd (boxw_grown HBq.out HG7.out (by omega))
      have HNn := Hd (own_kept HNo.out HG7.out (fun e => by have := (HNo.out.lt b e).1; omega))
      clear HNo
      have HNo := HNn
      clear HNn
      go_wp2_with fail
      refine (show Calls Tryz.prog 102 #[.pointer (some ⟨b, 0, none⟩), .int .i64 (201 - (k : Int))] w7 _ from hEx (needD (lastOf 1 T) [45, 62] (s2)) w7 H7.out.1).mono ?_
      rintro e w8 ⟨⟨k0, nm, f, u, vp, vk, vb, va, rfl, hat⟩, hP, hg⟩
      have HG8 := Hd hg
      have hsz8 : w7.heap.size ≤ w8.heap.size := hg.size
      have H8 := Hd (Ai hP (Gt H7.out.2 hg))
      clear hP hg
      obtain ⟨⟨ap, np, cp, rfl⟩, ⟨ak, nk, ck, rfl⟩, ⟨ab, nb, cb, rfl⟩, ⟨a5, n5, c5, rfl⟩⟩ := hat.slices
      have HAx := Hd hat
      clear hat
      generalize (exprD (lastOf 1 T) k) (needD (lastOf 1 T) [45, 62] (s2)) = Q at *
      obtain ⟨x, s3⟩ := Q
      replace HBq := Hd (boxw_grown HBq.out HG8.out (by omega))
      have HNn := Hd (own_kept HNo.out HG8.out (fun e => by have := (HNo.out.lt b e).1; omega))
      clear HNo
      have HNo := HNn
      clear HNn
      have hy := (Below.refl w8.heap.size w8).alloc Nr (.cells #[.int .i64 k0, .string nm, .bool f, .int .u64 u, .slice ap np cp, .slice ak nk ck, .slice ab nb cb, .slice a5 n5 c5] 37)
      replace HBq := Hd (HBq.out.below hy)
      have HKd := Hd (own_built (W := (w8.alloc (.cells #[.int .i64 k0, .string nm, .bool f, .int .u64 u, .slice ap np cp, .slice ak nk ck, .slice ab nb cb, .slice a5 n5 c5] 37))) (g := w8.heap.size) (base := w8.heap.size) (e := 37) (size := 8) (n := 1) (cs := #[.int .i64 k0, .string nm, .bool f, .int .u64 u, .slice ap np cp, .slice ak nk ck, .slice ab nb cb, .slice a5 n5 c5]) (heap_alloc_new _ _) Nr rfl (by decide))
      have HG9 := Hd (grown_of (b := b) hy)
      have hsz9 : w8.heap.size + 1 ≤ (w8.alloc (.cells #[.int .i64 k0, .string nm, .bool f, .int .u64 u, .slice ap np cp, .slice ak nk ck, .slice ab nb cb, .slice a5 n5 c5] 37)).heap.size := by simp
      have H9 := Hd (Ai (H8.out.1.later hy) (Gt H8.out.2 HG9.out))
      have HRn := Hd (own_below HNo.out hy)
      clear HNo
      have HNo := HRn
      clear HRn
      clear hy
      have q5 : (w8.alloc (.cells #[.int .i64 k0, .string nm, .bool f, .int .u64 u, .slice ap np cp, .slice ak nk ck, .slice ab nb cb, .slice a5 n5 c5] 37)).cell? ⟨w5.heap.size, 5, none⟩ = some _ := HBq.out.1 5 _ rfl
      have z5 : (w8.alloc (.cells #[.int .i64 k0, .string nm, .bool f, .int .u64 u, .slice ap np cp, .slice ak nk ck, .slice ab nb cb, .slice a5 n5 c5] 37)).frozen? ⟨w5.heap.size, 5, none⟩ = false := HBq.out.2 5
      go_upto_region 24 with fail
      generalize hWA : (w8.alloc (.cells #[.int .i64 k0, .string nm, .bool f, .int .u64 u, .slice ap np cp, .slice ak nk ck, .slice ab nb cb, .slice a5 n5 c5] 37)) = WA at *
      clear hWA
      have HBn := Hd (show BoxW (WA.setCell ⟨w5.heap.size, 5, none⟩ (.slice (some ⟨w8.heap.size, 0, none⟩) 1 1)) w5.heap.size [.int .i64 8, .string ⟨#[]⟩, .bool false, .int .u64 0, .slice aN ns.length cN, .slice (some ⟨w8.heap.size, 0, none⟩) 1 1, .slice none 0 0, .slice none 0 0] from (HBq.out).set 5 (show 5 < 8 by decide) (.slice (some ⟨w8.heap.size, 0, none⟩) 1 1))
      have H10 := Hd (Ai (show PAt (WA.setCell ⟨w5.heap.size, 5, none⟩ (.slice (some ⟨w8.heap.size, 0, none⟩) 1 1)) b T (s3) from (H9.out.1).over (show b < w5.heap.size by omega) _) (show W.grownBy (WA.setCell ⟨w5.heap.size, 5, none⟩ (.slice (some ⟨w8.heap.size, 0, none⟩) 1 1)) (some b) from (grown_new H9.out.2 (show W.heap.size ≤ w5.heap.size by omega) _)))
      have HK10 := Hd (show ∀ lo hi, w5.heap.size < lo → Kp lo hi WA (WA.setCell ⟨w5.heap.size, 5, none⟩ (.slice (some ⟨w8.heap.size, 0, none⟩) 1 1)) from fun lo hi h => (Kp.set _ _ _ _ (Or.inl h)))
      have hsz10 : WA.heap.size ≤ (WA.setCell ⟨w5.heap.size, 5, none⟩ (.slice (some ⟨w8.heap.size, 0, none⟩) 1 1)).heap.size := by simp
      have HRn := Hd (own_o HNo.out (set_grown _ w5.heap.size 5 (.slice (some ⟨w8.heap.size, 0, none⟩) 1 1)) (fun g e e2 => by have := HNl.out g e; have := Oi e2; omega))
      clear HNo
      have HNo := HRn
      clear HRn
      have HRn := Hd (own_o HKd.out (set_grown _ w5.heap.size 5 (.slice (some ⟨w8.heap.size, 0, none⟩) 1 1)) (fun g e e2 => by have := (HKd.out.lt g e).1; have := Oi e2; omega))
      clear HKd
      have HKd := HRn
      clear HRn
      clear HBq q5 z5
      have HBq := HBn
      clear HBn
      generalize (WA.setCell ⟨w5.heap.size, 5, none⟩ (.slice (some ⟨w8.heap.size, 0, none⟩) 1 1)) = w10 at *
      have HPv := Hd (show exprD (lastOf 1 T) (k + 1) s = (.mk 8 [] false 0 ns [x] [] [], s3) from HPu.out)
      obtain ⟨q0, q1, q2, q3, q4, q5, q6, q7⟩ := (HBq.out).q8
      have hBp := boxw_grown HX.out.2 H10.out.2 (by omega)
      obtain ⟨d0, d1, d2, d3, d4, d5, d6, d7⟩ := (hBp).q8
      obtain ⟨z0, z1, z2, z3, z4, z5, z6, z7⟩ := (hBp).z8
      have HBp := Hd hBp
      clear hBp
      go_wp2_with fail
      have hF := ((HBp.out).b8v (.int .i64 8) (.string ⟨#[]⟩) (.bool false) (.int .u64 0) (.slice aN ns.length cN) (.slice (some ⟨w8.heap.size, 0, none⟩) 1 1) (.slice none 0 0) (.slice none 0 0))
      have v0 := hF.1 0 _ rfl
      have v1 := hF.1 1 _ rfl
      have v2 := hF.1 2 _ rfl
      have v3 := hF.1 3 _ rfl
      have v4 := hF.1 4 _ rfl
      have v5 := hF.1 5 _ rfl
      have v6 := hF.1 6 _ rfl
      have v7 := hF.1 7 _ rfl
      refine bodyPost_ret (v := .agg #[.int .i64 8, .string ⟨#[]⟩, .bool false, .int .u64 0, .slice aN ns.length cN, .slice (some ⟨w8.heap.size, 0, none⟩) 1 1, .slice none 0 0, .slice none 0 0]) (by simp [results, Tryz.results102, go_sem, v0, v1, v2, v3, v4, v5, v6, v7]) rfl ?_
      rw [HPv.out]
      refine ⟨⟨_, _, _, _, _, _, _, _, rfl, .mk 8 [] false 0 ns [x] [] [] (.slice aN ns.length cN) _ _ _ [.int .i64 k0, .string nm, .bool f, .int .u64 u, .slice ap np cp, .slice ak nk ck, .slice ab nb cb, .slice a5 n5 c5] [] [] ((RowAt.own HNo.out).kp (lo' := w.heap.size) ((Kp.s8 (Or.inl (by omega)))) (by omega)) ((RowAt.own HKd.out).kp (lo' := w.heap.size) ((Kp.s8 (Or.inl (by omega)))) (by omega)) (RowAt.nil _ _ _ _) (RowAt.nil _ _ _ _) (ExsAt.cons x [] [.int .i64 k0, .string nm, .bool f, .int .u64 u, .slice ap np cp, .slice ak nk ck, .slice ab nb cb, .slice a5 n5 c5] [] (HAx.out.kp (lo' := w.heap.size) ((((Kp.grown HG9.out (by omega) (by omega)).trans (HK10.out _ _ (by omega)))).trans ((Kp.s8 (Or.inl (by omega))))) (by omega)) .nil) .nil .nil⟩, ((((((((H10.out.1).over hlt _).over hlt _).over hlt _).over hlt _).over hlt _).over hlt _).over hlt _).over hlt _, (grown_new (grown_new (grown_new (grown_new (grown_new (grown_new (grown_new (grown_new (Gt (grown_of (b := b) HX.out.1) H10.out.2) Nr _) Nr _) Nr _) Nr _) Nr _) Nr _) Nr _) Nr _)⟩
    | false =>
      rw [h1] at hc
      have HC := Hd hc
      clear hc
      go_wp2_with fail
      refine HC.out.mono ?_
      rintro e w3 ⟨rfl, hb⟩
      have HG3 := Hd (grown_of (b := b) hb)
      have hsz3 : w2.heap.size ≤ w3.heap.size := hb.size
      have H3 := Hd (Ai (H2.out.1.later hb) (Gt H2.out.2 HG3.out))
      clear HC hb
      have HPu := Hd ((expr_rowsD (ll := (lastOf 1 T)) (k := k) HE0.out HL1.out HL2.out h1).trans (show rowsD (lastOf 1 T) (exprD (lastOf 1 T) k) s = if (rowD (lastOf 1 T) (exprD (lastOf 1 T) k) s).2.e = 0 ∧ kindL (rowD (lastOf 1 T) (exprD (lastOf 1 T) k) s).2.r = 4 then (.mk 5 (tokD (lastOf 1 T) 4 (rowD (lastOf 1 T) (exprD (lastOf 1 T) k) s).2).1.1.t false 0 [] [(rowD (lastOf 1 T) (exprD (lastOf 1 T) k) s).1, (rowD (lastOf 1 T) (exprD (lastOf 1 T) k) (tokD (lastOf 1 T) 4 (rowD (lastOf 1 T) (exprD (lastOf 1 T) k) s).2).2).1] [] [], (rowD (lastOf 1 T) (exprD (lastOf 1 T) k) (tokD (lastOf 1 T) 4 (rowD (lastOf 1 T) (exprD (lastOf 1 T) k) s).2).2).2) else rowD (lastOf 1 T) (exprD (lastOf 1 T) k) s from rfl))
      clear h1 c2
      have HC := Hd (drow_any b T k hEx dd HD.out s w3 H3.out.1)
      go_wp2_with fail
      refine HC.out.mono ?_
      rintro e w4 ⟨⟨k0, nm, f, u, vp, vk, vb, va, rfl, hat⟩, hP, hg⟩
      have HG4 := Hd hg
      have hsz4 : w3.heap.size ≤ w4.heap.size := hg.size
      have H4 := Hd (Ai hP (Gt H3.out.2 hg))
      clear HC hP hg
      obtain ⟨⟨ap, np, cp, rfl⟩, ⟨ak, nk, ck, rfl⟩, ⟨ab, nb, cb, rfl⟩, ⟨a5, n5, c5, rfl⟩⟩ := hat.slices
      have HAx := Hd hat
      clear hat
      generalize rowD (lastOf 1 T) (exprD (lastOf 1 T) k) s = Q at *
      obtain ⟨x, s1⟩ := Q
      simp only at *
      have hy := (Below.refl w4.heap.size w4).alloc Nr (.cells #[.int .i64 k0, .string nm, .bool f, .int .u64 u, .slice ap np cp, .slice ak nk ck, .slice ab nb cb, .slice a5 n5 c5] 37)
      have HBq := Hd (BoxW.alloc w4 #[.int .i64 k0, .string nm, .bool f, .int .u64 u, .slice ap np cp, .slice ak nk ck, .slice ab nb cb, .slice a5 n5 c5] 37)
      have HG5 := Hd (grown_of (b := b) hy)
      have hsz5 : w4.heap.size + 1 ≤ (w4.alloc (.cells #[.int .i64 k0, .string nm, .bool f, .int .u64 u, .slice ap np cp, .slice ak nk ck, .slice ab nb cb, .slice a5 n5 c5] 37)).heap.size := by simp
      have H5 := Hd (Ai (H4.out.1.later hy) (Gt H4.out.2 HG5.out))
      clear hy
      go_upto_region 26 with fail
      generalize (w4.alloc (.cells #[.int .i64 k0, .string nm, .bool f, .int .u64 u, .slice ap np cp, .slice ak nk ck, .slice ab nb cb, .slice a5 n5 c5] 37)) = w5 at *
      have c2 := H5.out.1.c2
      by_cases ge : s1.e = 0
      · have f1 : (s1.e == 0) = true := by simp [ge]
        have HC := Hd (dkind_any b T s1 w5 H5.out.1)
        go_wp2_with fail
        refine HC.out.mono ?_
        rintro e w6 ⟨rfl, hb⟩
        have HG6 := Hd (grown_of (b := b) hb)
        have hsz6 : w5.heap.size ≤ w6.heap.size := hb.size
        have H6 := Hd (Ai (H5.out.1.later hb) (Gt H5.out.2 HG6.out))
        clear HC hb
        replace HBq := Hd (boxw_grown HBq.out HG6.out (by omega))
        by_cases gk : kindL s1.r = 4
        · have kk : (kindL s1.r == 4) = true := by simp [gk]
          have HPw := Hd (HPu.out.trans (if_pos ⟨ge, gk⟩))
          clear ge gk HPu
          go_wp2_with fail
          refine (dtok_any b T (s1) 4 (by decide) w6 H6.out.1).mono ?_
          rintro e w7 ⟨hv, hP, hg⟩
          have HG7 := Hd hg
          have hsz7 : w6.heap.size ≤ w7.heap.size := hg.size
          have H7 := Hd (Ai hP (Gt H6.out.2 hg))
          clear hP hg
          unfold TokV at hv
          subst hv
          generalize tokD (lastOf 1 T) 4 (s1) = Q at *
          obtain ⟨y, s1⟩ := Q
          have hf1 := fun W => tok_field1 y.1.k (tx y.1.t) y.1.f y.1.x y.2 W
          have hf2 := fun W => tok_field2 y.1.k (tx y.1.t) y.1.f y.1.x y.2 W
          replace HBq := Hd (boxw_grown HBq.out HG7.out (by omega))
          clear hf2
          go_wp2_with fail
          obtain ⟨q0, q1, q2, q3, q4, q5, q6, q7⟩ := (HBq.out).q8
          have HC := Hd (fun (W' : World) (hb : Below w7.heap.size w7 W') => drow_any b T k hEx dd HD.out (s1) W' (H7.out.1.later hb))
          have HPt := Hd H7.out.2
          clear hf1
          go_region_with (go_at_call 129; refine (HC.out _ (by first | exact Br | exact Br.drew | exact dbelow Br _)).mono ?_; rintro e w9 ⟨⟨k9, nm9, f9, u9, vp, vk, vb, va, rfl, hat9⟩, hP9, hg9⟩; obtain ⟨⟨ap9, np9, cp9, rfl⟩, ⟨ak9, nk9, ck9, rfl⟩, ⟨ab9, nb9, cb9, rfl⟩, ⟨aa9, na9, ca9, rfl⟩⟩ := hat9.slices; have hgg : w7.grownBy w9 (some b) := Gt (grown_of (by first | exact Br | exact Br.drew | exact dbelow Br _)) hg9; have hB9 := boxw_grown HBq.out hgg (by omega); have r0 := hB9.1 0 _ rfl; have r1 := hB9.1 1 _ rfl; have r2 := hB9.1 2 _ rfl; have r3 := hB9.1 3 _ rfl; have r4 := hB9.1 4 _ rfl; have r5 := hB9.1 5 _ rfl; have r6 := hB9.1 6 _ rfl; have r7 := hB9.1 7 _ rfl; have hy9 := (Below.refl w9.heap.size w9).alloc Nr (.cells #[.int .i64 k0, .string nm, .bool f, .int .u64 u, .slice ap np cp, .slice ak nk ck, .slice ab nb cb, .slice a5 n5 c5, .int .i64 k9, .string nm9, .bool f9, .int .u64 u9, .slice ap9 np9 cp9, .slice ak9 nk9 ck9, .slice ab9 nb9 cb9, .slice aa9 na9 ca9] 37); have HY9 := Hd hy9; have hBp := (boxw_grown HX.out.2 (Gt HPt.out hgg) (by omega)).below hy9; have d0 : (w9.alloc (.cells #[.int .i64 k0, .string nm, .bool f, .int .u64 u, .slice ap np cp, .slice ak nk ck, .slice ab nb cb, .slice a5 n5 c5, .int .i64 k9, .string nm9, .bool f9, .int .u64 u9, .slice ap9 np9 cp9, .slice ak9 nk9 ck9, .slice ab9 nb9 cb9, .slice aa9 na9 ca9] 37)).cell? ⟨w.heap.size, 0, none⟩ = some _ := hBp.1 0 _ rfl; have z0 : (w9.alloc (.cells #[.int .i64 k0, .string nm, .bool f, .int .u64 u, .slice ap np cp, .slice ak nk ck, .slice ab nb cb, .slice a5 n5 c5, .int .i64 k9, .string nm9, .bool f9, .int .u64 u9, .slice ap9 np9 cp9, .slice ak9 nk9 ck9, .slice ab9 nb9 cb9, .slice aa9 na9 ca9] 37)).frozen? ⟨w.heap.size, 0, none⟩ = false := hBp.2 0; have d1 : (w9.alloc (.cells #[.int .i64 k0, .string nm, .bool f, .int .u64 u, .slice ap np cp, .slice ak nk ck, .slice ab nb cb, .slice a5 n5 c5, .int .i64 k9, .string nm9, .bool f9, .int .u64 u9, .slice ap9 np9 cp9, .slice ak9 nk9 ck9, .slice ab9 nb9 cb9, .slice aa9 na9 ca9] 37)).cell? ⟨w.heap.size, 1, none⟩ = some _ := hBp.1 1 _ rfl; have z1 : (w9.alloc (.cells #[.int .i64 k0, .string nm, .bool f, .int .u64 u, .slice ap np cp, .slice ak nk ck, .slice ab nb cb, .slice a5 n5 c5, .int .i64 k9, .string nm9, .bool f9, .int .u64 u9, .slice ap9 np9 cp9, .slice ak9 nk9 ck9, .slice ab9 nb9 cb9, .slice aa9 na9 ca9] 37)).frozen? ⟨w.heap.size, 1, none⟩ = false := hBp.2 1; have d2 : (w9.alloc (.cells #[.int .i64 k0, .string nm, .bool f, .int .u64 u, .slice ap np cp, .slice ak nk ck, .slice ab nb cb, .slice a5 n5 c5, .int .i64 k9, .string nm9, .bool f9, .int .u64 u9, .slice ap9 np9 cp9, .slice ak9 nk9 ck9, .slice ab9 nb9 cb9, .slice aa9 na9 ca9] 37)).cell? ⟨w.heap.size, 2, none⟩ = some _ := hBp.1 2 _ rfl; have z2 : (w9.alloc (.cells #[.int .i64 k0, .string nm, .bool f, .int .u64 u, .slice ap np cp, .slice ak nk ck, .slice ab nb cb, .slice a5 n5 c5, .int .i64 k9, .string nm9, .bool f9, .int .u64 u9, .slice ap9 np9 cp9, .slice ak9 nk9 ck9, .slice ab9 nb9 cb9, .slice aa9 na9 ca9] 37)).frozen? ⟨w.heap.size, 2, none⟩ = false := hBp.2 2; have d3 : (w9.alloc (.cells #[.int .i64 k0, .string nm, .bool f, .int .u64 u, .slice ap np cp, .slice ak nk ck, .slice ab nb cb, .slice a5 n5 c5, .int .i64 k9, .string nm9, .bool f9, .int .u64 u9, .slice ap9 np9 cp9, .slice ak9 nk9 ck9, .slice ab9 nb9 cb9, .slice aa9 na9 ca9] 37)).cell? ⟨w.heap.size, 3, none⟩ = some _ := hBp.1 3 _ rfl; have z3 : (w9.alloc (.cells #[.int .i64 k0, .string nm, .bool f, .int .u64 u, .slice ap np cp, .slice ak nk ck, .slice ab nb cb, .slice a5 n5 c5, .int .i64 k9, .string nm9, .bool f9, .int .u64 u9, .slice ap9 np9 cp9, .slice ak9 nk9 ck9, .slice ab9 nb9 cb9, .slice aa9 na9 ca9] 37)).frozen? ⟨w.heap.size, 3, none⟩ = false := hBp.2 3; have d4 : (w9.alloc (.cells #[.int .i64 k0, .string nm, .bool f, .int .u64 u, .slice ap np cp, .slice ak nk ck, .slice ab nb cb, .slice a5 n5 c5, .int .i64 k9, .string nm9, .bool f9, .int .u64 u9, .slice ap9 np9 cp9, .slice ak9 nk9 ck9, .slice ab9 nb9 cb9, .slice aa9 na9 ca9] 37)).cell? ⟨w.heap.size, 4, none⟩ = some _ := hBp.1 4 _ rfl; have z4 : (w9.alloc (.cells #[.int .i64 k0, .string nm, .bool f, .int .u64 u, .slice ap np cp, .slice ak nk ck, .slice ab nb cb, .slice a5 n5 c5, .int .i64 k9, .string nm9, .bool f9, .int .u64 u9, .slice ap9 np9 cp9, .slice ak9 nk9 ck9, .slice ab9 nb9 cb9, .slice aa9 na9 ca9] 37)).frozen? ⟨w.heap.size, 4, none⟩ = false := hBp.2 4; have d5 : (w9.alloc (.cells #[.int .i64 k0, .string nm, .bool f, .int .u64 u, .slice ap np cp, .slice ak nk ck, .slice ab nb cb, .slice a5 n5 c5, .int .i64 k9, .string nm9, .bool f9, .int .u64 u9, .slice ap9 np9 cp9, .slice ak9 nk9 ck9, .slice ab9 nb9 cb9, .slice aa9 na9 ca9] 37)).cell? ⟨w.heap.size, 5, none⟩ = some _ := hBp.1 5 _ rfl; have z5 : (w9.alloc (.cells #[.int .i64 k0, .string nm, .bool f, .int .u64 u, .slice ap np cp, .slice ak nk ck, .slice ab nb cb, .slice a5 n5 c5, .int .i64 k9, .string nm9, .bool f9, .int .u64 u9, .slice ap9 np9 cp9, .slice ak9 nk9 ck9, .slice ab9 nb9 cb9, .slice aa9 na9 ca9] 37)).frozen? ⟨w.heap.size, 5, none⟩ = false := hBp.2 5; have d6 : (w9.alloc (.cells #[.int .i64 k0, .string nm, .bool f, .int .u64 u, .slice ap np cp, .slice ak nk ck, .slice ab nb cb, .slice a5 n5 c5, .int .i64 k9, .string nm9, .bool f9, .int .u64 u9, .slice ap9 np9 cp9, .slice ak9 nk9 ck9, .slice ab9 nb9 cb9, .slice aa9 na9 ca9] 37)).cell? ⟨w.heap.size, 6, none⟩ = some _ := hBp.1 6 _ rfl; have z6 : (w9.alloc (.cells #[.int .i64 k0, .string nm, .bool f, .int .u64 u, .slice ap np cp, .slice ak nk ck, .slice ab nb cb, .slice a5 n5 c5, .int .i64 k9, .string nm9, .bool f9, .int .u64 u9, .slice ap9 np9 cp9, .slice ak9 nk9 ck9, .slice ab9 nb9 cb9, .slice aa9 na9 ca9] 37)).frozen? ⟨w.heap.size, 6, none⟩ = false := hBp.2 6; have d7 : (w9.alloc (.cells #[.int .i64 k0, .string nm, .bool f, .int .u64 u, .slice ap np cp, .slice ak nk ck, .slice ab nb cb, .slice a5 n5 c5, .int .i64 k9, .string nm9, .bool f9, .int .u64 u9, .slice ap9 np9 cp9, .slice ak9 nk9 ck9, .slice ab9 nb9 cb9, .slice aa9 na9 ca9] 37)).cell? ⟨w.heap.size, 7, none⟩ = some _ := hBp.1 7 _ rfl; have z7 : (w9.alloc (.cells #[.int .i64 k0, .string nm, .bool f, .int .u64 u, .slice ap np cp, .slice ak nk ck, .slice ab nb cb, .slice a5 n5 c5, .int .i64 k9, .string nm9, .bool f9, .int .u64 u9, .slice ap9 np9 cp9, .slice ak9 nk9 ck9, .slice ab9 nb9 cb9, .slice aa9 na9 ca9] 37)).frozen? ⟨w.heap.size, 7, none⟩ = false := hBp.2 7; have HBp := Hd hBp; have H9 := Hd (Ai (show PAt w9 b T (rowD (lastOf 1 T) (exprD (lastOf 1 T) k) (s1)).2 from hP9) (Ai hgg (show ExAt w9 (fun g => w7.heap.size ≤ g) (rowD (lastOf 1 T) (exprD (lastOf 1 T) k) (s1)).1 [.int .i64 k9, .string nm9, .bool f9, .int .u64 u9, .slice ap9 np9 cp9, .slice ak9 nk9 ck9, .slice ab9 nb9 cb9, .slice aa9 na9 ca9] from hat9))); have hsz9 : w7.heap.size ≤ w9.heap.size := hgg.size; clear hP9 hg9 hgg hB9 hat9 hy9 hBp)
          all_goals
            go_wp2_with fail
            have HPv := Hd (show exprD (lastOf 1 T) (k + 1) s = (.mk 5 y.1.t false 0 [] [x, (rowD (lastOf 1 T) (exprD (lastOf 1 T) k) (s1)).1] [] [], (rowD (lastOf 1 T) (exprD (lastOf 1 T) k) (s1)).2) from HPw.out)
            have hF := ((HBp.out).b8v (.int .i64 5) (.string (tx y.1.t)) (.bool false) (.int .u64 0) (.slice none 0 0) (.slice (some ⟨w9.heap.size, 0, none⟩) 2 2) (.slice none 0 0) (.slice none 0 0))
            have v0 := hF.1 0 _ rfl
            have v1 := hF.1 1 _ rfl
            have v2 := hF.1 2 _ rfl
            have v3 := hF.1 3 _ rfl
            have v4 := hF.1 4 _ rfl
            have v5 := hF.1 5 _ rfl
            have v6 := hF.1 6 _ rfl
            have v7 := hF.1 7 _ rfl
            refine bodyPost_ret (v := .agg #[.int .i64 5, .string (tx y.1.t), .bool false, .int .u64 0, .slice none 0 0, .slice (some ⟨w9.heap.size, 0, none⟩) 2 2, .slice none 0 0, .slice none 0 0]) (by simp [results, Tryz.results102, go_sem, v0, v1, v2, v3, v4, v5, v6, v7]) rfl ?_
            rw [HPv.out]
            have hszA : w9.heap.size ≤ (w9.alloc (.cells #[.int .i64 k0, .string nm, .bool f, .int .u64 u, .slice ap np cp, .slice ak nk ck, .slice ab nb cb, .slice a5 n5 c5, .int .i64 k9, .string nm9, .bool f9, .int .u64 u9, .slice ap9 np9 cp9, .slice ak9 nk9 ck9, .slice ab9 nb9 cb9, .slice aa9 na9 ca9] 37)).heap.size := HY9.out.size
            refine ⟨⟨_, _, _, _, _, _, _, _, rfl, ExAt.kids (xs := [x, (rowD (lastOf 1 T) (exprD (lastOf 1 T) k) (s1)).1]) 5 y.1.t ((RowAt.own (own_built (W := (w9.alloc (.cells #[.int .i64 k0, .string nm, .bool f, .int .u64 u, .slice ap np cp, .slice ak nk ck, .slice ab nb cb, .slice a5 n5 c5, .int .i64 k9, .string nm9, .bool f9, .int .u64 u9, .slice ap9 np9 cp9, .slice ak9 nk9 ck9, .slice ab9 nb9 cb9, .slice aa9 na9 ca9] 37))) (g := w9.heap.size) (base := w9.heap.size) (e := 37) (size := 8) (n := 2) (cs := #[.int .i64 k0, .string nm, .bool f, .int .u64 u, .slice ap np cp, .slice ak nk ck, .slice ab nb cb, .slice a5 n5 c5, .int .i64 k9, .string nm9, .bool f9, .int .u64 u9, .slice ap9 np9 cp9, .slice ak9 nk9 ck9, .slice ab9 nb9 cb9, .slice aa9 na9 ca9]) (heap_alloc_new _ _) Nr rfl (by decide))).kp (lo' := w.heap.size) ((Kp.s8 (Or.inl (by omega)))) (by omega)) (ExsAt.cons x _ [.int .i64 k0, .string nm, .bool f, .int .u64 u, .slice ap np cp, .slice ak nk ck, .slice ab nb cb, .slice a5 n5 c5] _ (HAx.out.kp (lo' := w.heap.size) (((((((Kp.grown HG5.out (by omega) (by omega)).trans (Kp.grown HG6.out (by omega) (by omega)))).trans (Kp.grown HG7.out (by omega) (by omega)))).trans (Kp.grown H9.out.2.1 (by omega) (by omega))).trans ((Kp.below HY9.out (by omega)).trans ((Kp.s8 (Or.inl (by omega)))))) (by omega)) (ExsAt.cons _ [] [.int .i64 k9, .string nm9, .bool f9, .int .u64 u9, .slice ap9 np9 cp9, .slice ak9 nk9 ck9, .slice ab9 nb9 cb9, .slice aa9 na9 ca9] [] (H9.out.2.2.kp (lo' := w.heap.size) ((Kp.below HY9.out (by omega)).trans ((Kp.s8 (Or.inl (by omega))))) (by omega)) .nil))⟩, (((((((((H9.out.1.later HY9.out)).over hlt _).over hlt _).over hlt _).over hlt _).over hlt _).over hlt _).over hlt _).over hlt _, (grown_new (grown_new (grown_new (grown_new (grown_new (grown_new (grown_new (grown_new (Gt (grown_of (b := b) HX.out.1) (Gt (Gt HPt.out H9.out.2.1) (grown_of (b := b) HY9.out))) Nr _) Nr _) Nr _) Nr _) Nr _) Nr _) Nr _) Nr _)⟩
        · have kk : (kindL s1.r == 4) = false := by simp [gk]
          have HNo4 := Hd (show ¬ (s1.e = 0 ∧ kindL s1.r = 4) from fun h => gk h.2)
          clear ge gk
          have HPv := Hd (show exprD (lastOf 1 T) (k + 1) s = (x, s1) from HPu.out.trans (if_neg HNo4.out))
          obtain ⟨q0, q1, q2, q3, q4, q5, q6, q7⟩ := (HBq.out).q8
          have hBp := boxw_grown HX.out.2 H6.out.2 (by omega)
          obtain ⟨d0, d1, d2, d3, d4, d5, d6, d7⟩ := (hBp).q8
          obtain ⟨z0, z1, z2, z3, z4, z5, z6, z7⟩ := (hBp).z8
          have HBp := Hd hBp
          clear hBp
          go_wp2_with fail
          have hF := ((HBp.out).b8v (.int .i64 k0) (.string nm) (.bool f) (.int .u64 u) (.slice ap np cp) (.slice ak nk ck) (.slice ab nb cb) (.slice a5 n5 c5))
          have v0 := hF.1 0 _ rfl
          have v1 := hF.1 1 _ rfl
          have v2 := hF.1 2 _ rfl
          have v3 := hF.1 3 _ rfl
          have v4 := hF.1 4 _ rfl
          have v5 := hF.1 5 _ rfl
          have v6 := hF.1 6 _ rfl
          have v7 := hF.1 7 _ rfl
          refine bodyPost_ret (v := .agg #[.int .i64 k0, .string nm, .bool f, .int .u64 u, .slice ap np cp, .slice ak nk ck, .slice ab nb cb, .slice a5 n5 c5]) (by simp [results, Tryz.results102, go_sem, v0, v1, v2, v3, v4, v5, v6, v7]) rfl ?_
          rw [HPv.out]
          refine ⟨⟨_, _, _, _, _, _, _, _, rfl, HAx.out.kp (lo' := w.heap.size) ((((Kp.grown HG5.out (by omega) (by omega)).trans (Kp.grown HG6.out (by omega) (by omega)))).trans ((Kp.s8 (Or.inl (by omega))))) (by omega)⟩, ((((((((H6.out.1).over hlt _).over hlt _).over hlt _).over hlt _).over hlt _).over hlt _).over hlt _).over hlt _, (grown_new (grown_new (grown_new (grown_new (grown_new (grown_new (grown_new (grown_new (Gt (grown_of (b := b) HX.out.1) H6.out.2) Nr _) Nr _) Nr _) Nr _) Nr _) Nr _) Nr _) Nr _)⟩
      · have f1 : (s1.e == 0) = false := by simp [ge]
        have HNo4 := Hd (show ¬ (s1.e = 0 ∧ kindL s1.r = 4) from fun h => ge h.1)
        clear ge
        have HPv := Hd (show exprD (lastOf 1 T) (k + 1) s = (x, s1) from HPu.out.trans (if_neg HNo4.out))
        obtain ⟨q0, q1, q2, q3, q4, q5, q6, q7⟩ := (HBq.out).q8
        have hBp := boxw_grown HX.out.2 H5.out.2 (by omega)
        obtain ⟨d0, d1, d2, d3, d4, d5, d6, d7⟩ := (hBp).q8
        obtain ⟨z0, z1, z2, z3, z4, z5, z6, z7⟩ := (hBp).z8
        have HBp := Hd hBp
        clear hBp
        go_wp2_with fail
        have hF := ((HBp.out).b8v (.int .i64 k0) (.string nm) (.bool f) (.int .u64 u) (.slice ap np cp) (.slice ak nk ck) (.slice ab nb cb) (.slice a5 n5 c5))
        have v0 := hF.1 0 _ rfl
        have v1 := hF.1 1 _ rfl
        have v2 := hF.1 2 _ rfl
        have v3 := hF.1 3 _ rfl
        have v4 := hF.1 4 _ rfl
        have v5 := hF.1 5 _ rfl
        have v6 := hF.1 6 _ rfl
        have v7 := hF.1 7 _ rfl
        refine bodyPost_ret (v := .agg #[.int .i64 k0, .string nm, .bool f, .int .u64 u, .slice ap np cp, .slice ak nk ck, .slice ab nb cb, .slice a5 n5 c5]) (by simp [results, Tryz.results102, go_sem, v0, v1, v2, v3, v4, v5, v6, v7]) rfl ?_
        rw [HPv.out]
        refine ⟨⟨_, _, _, _, _, _, _, _, rfl, HAx.out.kp (lo' := w.heap.size) ((Kp.grown HG5.out (by omega) (by omega)).trans ((Kp.s8 (Or.inl (by omega))))) (by omega)⟩, ((((((((H5.out.1).over hlt _).over hlt _).over hlt _).over hlt _).over hlt _).over hlt _).over hlt _).over hlt _, (grown_new (grown_new (grown_new (grown_new (grown_new (grown_new (grown_new (grown_new (Gt (grown_of (b := b) HX.out.1) H5.out.2) Nr _) Nr _) Nr _) Nr _) Nr _) Nr _) Nr _) Nr _)⟩
  · have f0 : (s.e != 0) = true := by simp [ge]
    have HPu := Hd (show exprD (lastOf 1 T) (k + 1) s = (blankX, s) by unfold exprD; rw [if_pos ge])
    clear ge hnl
    have hBp := boxw_grown HX.out.2 H0.out.2 (by omega)
    obtain ⟨d0, d1, d2, d3, d4, d5, d6, d7⟩ := (hBp).q8
    obtain ⟨z0, z1, z2, z3, z4, z5, z6, z7⟩ := (hBp).z8
    have HBp := Hd hBp
    clear hBp
    go_wp2_with fail
    have hF := ((HBp.out).b8v (.int .i64 0) (.string ⟨#[]⟩) (.bool false) (.int .u64 0) (.slice none 0 0) (.slice none 0 0) (.slice none 0 0) (.slice none 0 0))
    have v0 := hF.1 0 _ rfl
    have v1 := hF.1 1 _ rfl
    have v2 := hF.1 2 _ rfl
    have v3 := hF.1 3 _ rfl
    have v4 := hF.1 4 _ rfl
    have v5 := hF.1 5 _ rfl
    have v6 := hF.1 6 _ rfl
    have v7 := hF.1 7 _ rfl
    refine bodyPost_ret (v := .agg #[.int .i64 0, .string ⟨#[]⟩, .bool false, .int .u64 0, .slice none 0 0, .slice none 0 0, .slice none 0 0, .slice none 0 0]) (by simp [results, Tryz.results102, go_sem, v0, v1, v2, v3, v4, v5, v6, v7]) rfl ?_
    rw [HPu.out]
    refine ⟨⟨_, _, _, _, _, _, _, _, rfl, ExAt.leaf _ _ 0 []⟩, ((((((((H0.out.1).over hlt _).over hlt _).over hlt _).over hlt _).over hlt _).over hlt _).over hlt _).over hlt _, (grown_new (grown_new (grown_new (grown_new (grown_new (grown_new (grown_new (grown_new (Gt (grown_of (b := b) HX.out.1) H0.out.2) Nr _) Nr _) Nr _) Nr _) Nr _) Nr _) Nr _) Nr _)⟩
end Go.Proofs.YthehgcmhcioffaaGreatDoor
