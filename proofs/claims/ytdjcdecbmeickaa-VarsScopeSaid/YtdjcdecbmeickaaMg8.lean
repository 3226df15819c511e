import Derived.Test.YtdjcdecbmeickaaMg6
import Derived.Test.YtdjcdecbmeickaaMg7
namespace Go.Proofs.Ytdjcdecbmeickaa
set_option maxHeartbeats 64000000
set_option maxRecDepth 100000
open Go.RowKit Go.Lib
theorem dbind_any (b : Nat) (T : List Tok) (k : Nat) (hEx : ExprDC b T k) (dd : Int) (hd : IntKind.i64.wrap (dd + 1) = 201 - (k : Int)) (s : St) (w : World) (hP : PAt w b T s) : Calls Try.prog 36 #[.pointer (some ⟨b, 0, none⟩), .int .i64 dd] w (DSaid b T (BndV w.heap.size) (bindD (lastOf 1 T) (exprD (lastOf 1 T) k) s) w) := by
  have hlt : b < w.heap.size := hP.lt
  have hx := (Below.refl w.heap.size w).alloc Nr (.cells #[.string ⟨#[]⟩, .slice none 0 0, .int .i64 0, .string ⟨#[]⟩, .bool false, .int .u64 0, .slice none 0 0, .slice none 0 0, .slice none 0 0, .slice none 0 0] 36)
  have HX := Hd (Ai hx (BoxW.alloc w #[.string ⟨#[]⟩, .slice none 0 0, .int .i64 0, .string ⟨#[]⟩, .bool false, .int .u64 0, .slice none 0 0, .slice none 0 0, .slice none 0 0, .slice none 0 0] 36))
  have H0 := Hd (Ai (hP.later hx) (grown_of (b := b) (Below.refl (w.alloc (.cells #[.string ⟨#[]⟩, .slice none 0 0, .int .i64 0, .string ⟨#[]⟩, .bool false, .int .u64 0, .slice none 0 0, .slice none 0 0, .slice none 0 0, .slice none 0 0] 36)).heap.size (w.alloc (.cells #[.string ⟨#[]⟩, .slice none 0 0, .int .i64 0, .string ⟨#[]⟩, .bool false, .int .u64 0, .slice none 0 0, .slice none 0 0, .slice none 0 0, .slice none 0 0] 36)))))
  have HT0 := Hd hP.n
  clear hx hP
  go_enter Try.func36, Try.ntmps36
  go_upto_region 1 with fail
  have hsz0 : w.heap.size + 1 ≤ (w.alloc (.cells #[.string ⟨#[]⟩, .slice none 0 0, .int .i64 0, .string ⟨#[]⟩, .bool false, .int .u64 0, .slice none 0 0, .slice none 0 0, .slice none 0 0, .slice none 0 0] 36)).heap.size := by simp
  generalize (w.alloc (.cells #[.string ⟨#[]⟩, .slice none 0 0, .int .i64 0, .string ⟨#[]⟩, .bool false, .int .u64 0, .slice none 0 0, .slice none 0 0, .slice none 0 0, .slice none 0 0] 36)) = W at *
  have HPu := Hd (show bindD (lastOf 1 T) (exprD (lastOf 1 T) k) s = (((namesD (lastOf 1 T) true s).1.headD [], (namesD (lastOf 1 T) true s).1.tail, ((exprD (lastOf 1 T) k) (needD (lastOf 1 T) [61] (namesD (lastOf 1 T) true s).2)).1), ((exprD (lastOf 1 T) k) (needD (lastOf 1 T) [61] (namesD (lastOf 1 T) true s).2)).2) from rfl)
  have HC := Hd ((show Calls Try.prog 56 #[.pointer (some ⟨b, 0, none⟩), .int .i64 1] W (DSaid b T (NmsV W.heap.size) (namesD (lastOf 1 T) true (s)) W) from dnames_any b T (s) true W H0.out.1))
  go_wp2_with fail
  refine HC.out.mono ?_
  rintro e w1 ⟨⟨v, rfl, hown⟩, hP, hg⟩
  have HG1 := Hd hg
  have hsz1 : W.heap.size ≤ w1.heap.size := hg.size
  have H1 := Hd (Ai hP (Gt H0.out.2 hg))
  clear HC hP hg
  obtain ⟨aN, cN, rfl, -⟩ := own_shape hown
  have HNo := Hd hown
  clear hown
  generalize namesD (lastOf 1 T) true (s) = Q at *
  obtain ⟨ns, s1⟩ := Q
  have HC := Hd (dneed_any b T (s1) [61] w1 H1.out.1)
  go_wp2_with fail
  refine HC.out.mono ?_
  rintro e w2 ⟨rfl, hP, hg⟩
  have HG2 := Hd hg
  have hsz2 : w1.heap.size ≤ w2.heap.size := hg.size
  have H2 := Hd (Ai hP (Gt H1.out.2 hg))
  clear HC hP hg
  have HNn := Hd (own_kept HNo.out HG2.out (fun e => by have := (HNo.out.lt b e).1; omega))
  clear HNo
  have HNo := HNn
  clear HNn
  have HC := Hd (show Calls Try.prog 57 #[.pointer (some ⟨b, 0, none⟩), .int .i64 (201 - (k : Int))] w2 _ from hEx (needD (lastOf 1 T) [61] (s1)) w2 H2.out.1)
  go_wp2_with fail
  refine HC.out.mono ?_
  rintro e w3 ⟨⟨k0, nm, f, u, vp, vk, vb, va, rfl, hat⟩, hP, hg⟩
  have HG3 := Hd hg
  have hsz3 : w2.heap.size ≤ w3.heap.size := hg.size
  have H3 := Hd (Ai hP (Gt H2.out.2 hg))
  clear HC hP hg
  obtain ⟨⟨ap, np, cp, rfl⟩, ⟨ak, nk, ck, rfl⟩, ⟨ab, nb, cb, rfl⟩, ⟨a5, n5, c5, rfl⟩⟩ := hat.slices
  have HAx := Hd hat
  clear hat
  generalize (exprD (lastOf 1 T) k) (needD (lastOf 1 T) [61] (s1)) = Q at *
  obtain ⟨x, s3⟩ := Q
  have HNn := Hd (own_kept HNo.out HG3.out (fun e => by have := (HNo.out.lt b e).1; omega))
  clear HNo
  have HNo := HNn
  clear HNn
  cases ns with
  | nil =>
    have HPv := Hd (show bindD (lastOf 1 T) (exprD (lastOf 1 T) k) s = (([], [], x), s3) from HPu.out)
    clear HPu
    simp only [List.length_nil] at *
    have hy := (Below.refl w3.heap.size w3).alloc Nr (.cells #[.string ⟨#[]⟩, .slice none 0 0, .int .i64 k0, .string nm, .bool f, .int .u64 u, .slice ap np cp, .slice ak nk ck, .slice ab nb cb, .slice a5 n5 c5] 36)
    have hszA : w3.heap.size ≤ (w3.alloc (.cells #[.string ⟨#[]⟩, .slice none 0 0, .int .i64 k0, .string nm, .bool f, .int .u64 u, .slice ap np cp, .slice ak nk ck, .slice ab nb cb, .slice a5 n5 c5] 36)).heap.size := hy.size
    have hBp : BoxW (w3.alloc (.cells #[.string ⟨#[]⟩, .slice none 0 0, .int .i64 k0, .string nm, .bool f, .int .u64 u, .slice ap np cp, .slice ak nk ck, .slice ab nb cb, .slice a5 n5 c5] 36)) w.heap.size [.string ⟨#[]⟩, .slice none 0 0, .int .i64 0, .string ⟨#[]⟩, .bool false, .int .u64 0, .slice none 0 0, .slice none 0 0, .slice none 0 0, .slice none 0 0] := boxw_grown HX.out.2 (Gt H3.out.2 (grown_of (b := b) hy)) (by omega)
    have d0 : (w3.alloc (.cells #[.string ⟨#[]⟩, .slice none 0 0, .int .i64 k0, .string nm, .bool f, .int .u64 u, .slice ap np cp, .slice ak nk ck, .slice ab nb cb, .slice a5 n5 c5] 36)).cell? ⟨w.heap.size, 0, none⟩ = some _ := hBp.1 0 _ rfl
    have d1 : (w3.alloc (.cells #[.string ⟨#[]⟩, .slice none 0 0, .int .i64 k0, .string nm, .bool f, .int .u64 u, .slice ap np cp, .slice ak nk ck, .slice ab nb cb, .slice a5 n5 c5] 36)).cell? ⟨w.heap.size, 1, none⟩ = some _ := hBp.1 1 _ rfl
    have d2 : (w3.alloc (.cells #[.string ⟨#[]⟩, .slice none 0 0, .int .i64 k0, .string nm, .bool f, .int .u64 u, .slice ap np cp, .slice ak nk ck, .slice ab nb cb, .slice a5 n5 c5] 36)).cell? ⟨w.heap.size, 2, none⟩ = some _ := hBp.1 2 _ rfl
    have d3 : (w3.alloc (.cells #[.string ⟨#[]⟩, .slice none 0 0, .int .i64 k0, .string nm, .bool f, .int .u64 u, .slice ap np cp, .slice ak nk ck, .slice ab nb cb, .slice a5 n5 c5] 36)).cell? ⟨w.heap.size, 3, none⟩ = some _ := hBp.1 3 _ rfl
    have d4 : (w3.alloc (.cells #[.string ⟨#[]⟩, .slice none 0 0, .int .i64 k0, .string nm, .bool f, .int .u64 u, .slice ap np cp, .slice ak nk ck, .slice ab nb cb, .slice a5 n5 c5] 36)).cell? ⟨w.heap.size, 4, none⟩ = some _ := hBp.1 4 _ rfl
    have d5 : (w3.alloc (.cells #[.string ⟨#[]⟩, .slice none 0 0, .int .i64 k0, .string nm, .bool f, .int .u64 u, .slice ap np cp, .slice ak nk ck, .slice ab nb cb, .slice a5 n5 c5] 36)).cell? ⟨w.heap.size, 5, none⟩ = some _ := hBp.1 5 _ rfl
    have d6 : (w3.alloc (.cells #[.string ⟨#[]⟩, .slice none 0 0, .int .i64 k0, .string nm, .bool f, .int .u64 u, .slice ap np cp, .slice ak nk ck, .slice ab nb cb, .slice a5 n5 c5] 36)).cell? ⟨w.heap.size, 6, none⟩ = some _ := hBp.1 6 _ rfl
    have d7 : (w3.alloc (.cells #[.string ⟨#[]⟩, .slice none 0 0, .int .i64 k0, .string nm, .bool f, .int .u64 u, .slice ap np cp, .slice ak nk ck, .slice ab nb cb, .slice a5 n5 c5] 36)).cell? ⟨w.heap.size, 7, none⟩ = some _ := hBp.1 7 _ rfl
    have d8 : (w3.alloc (.cells #[.string ⟨#[]⟩, .slice none 0 0, .int .i64 k0, .string nm, .bool f, .int .u64 u, .slice ap np cp, .slice ak nk ck, .slice ab nb cb, .slice a5 n5 c5] 36)).cell? ⟨w.heap.size, 8, none⟩ = some _ := hBp.1 8 _ rfl
    have d9 : (w3.alloc (.cells #[.string ⟨#[]⟩, .slice none 0 0, .int .i64 k0, .string nm, .bool f, .int .u64 u, .slice ap np cp, .slice ak nk ck, .slice ab nb cb, .slice a5 n5 c5] 36)).cell? ⟨w.heap.size, 9, none⟩ = some _ := hBp.1 9 _ rfl
    have z0 : (w3.alloc (.cells #[.string ⟨#[]⟩, .slice none 0 0, .int .i64 k0, .string nm, .bool f, .int .u64 u, .slice ap np cp, .slice ak nk ck, .slice ab nb cb, .slice a5 n5 c5] 36)).frozen? ⟨w.heap.size, 0, none⟩ = false := hBp.2 0
    have z1 : (w3.alloc (.cells #[.string ⟨#[]⟩, .slice none 0 0, .int .i64 k0, .string nm, .bool f, .int .u64 u, .slice ap np cp, .slice ak nk ck, .slice ab nb cb, .slice a5 n5 c5] 36)).frozen? ⟨w.heap.size, 1, none⟩ = false := hBp.2 1
    have z2 : (w3.alloc (.cells #[.string ⟨#[]⟩, .slice none 0 0, .int .i64 k0, .string nm, .bool f, .int .u64 u, .slice ap np cp, .slice ak nk ck, .slice ab nb cb, .slice a5 n5 c5] 36)).frozen? ⟨w.heap.size, 2, none⟩ = false := hBp.2 2
    have z3 : (w3.alloc (.cells #[.string ⟨#[]⟩, .slice none 0 0, .int .i64 k0, .string nm, .bool f, .int .u64 u, .slice ap np cp, .slice ak nk ck, .slice ab nb cb, .slice a5 n5 c5] 36)).frozen? ⟨w.heap.size, 3, none⟩ = false := hBp.2 3
    have z4 : (w3.alloc (.cells #[.string ⟨#[]⟩, .slice none 0 0, .int .i64 k0, .string nm, .bool f, .int .u64 u, .slice ap np cp, .slice ak nk ck, .slice ab nb cb, .slice a5 n5 c5] 36)).frozen? ⟨w.heap.size, 4, none⟩ = false := hBp.2 4
    have z5 : (w3.alloc (.cells #[.string ⟨#[]⟩, .slice none 0 0, .int .i64 k0, .string nm, .bool f, .int .u64 u, .slice ap np cp, .slice ak nk ck, .slice ab nb cb, .slice a5 n5 c5] 36)).frozen? ⟨w.heap.size, 5, none⟩ = false := hBp.2 5
    have z6 : (w3.alloc (.cells #[.string ⟨#[]⟩, .slice none 0 0, .int .i64 k0, .string nm, .bool f, .int .u64 u, .slice ap np cp, .slice ak nk ck, .slice ab nb cb, .slice a5 n5 c5] 36)).frozen? ⟨w.heap.size, 6, none⟩ = false := hBp.2 6
    have z7 : (w3.alloc (.cells #[.string ⟨#[]⟩, .slice none 0 0, .int .i64 k0, .string nm, .bool f, .int .u64 u, .slice ap np cp, .slice ak nk ck, .slice ab nb cb, .slice a5 n5 c5] 36)).frozen? ⟨w.heap.size, 7, none⟩ = false := hBp.2 7
    have z8 : (w3.alloc (.cells #[.string ⟨#[]⟩, .slice none 0 0, .int .i64 k0, .string nm, .bool f, .int .u64 u, .slice ap np cp, .slice ak nk ck, .slice ab nb cb, .slice a5 n5 c5] 36)).frozen? ⟨w.heap.size, 8, none⟩ = false := hBp.2 8
    have z9 : (w3.alloc (.cells #[.string ⟨#[]⟩, .slice none 0 0, .int .i64 k0, .string nm, .bool f, .int .u64 u, .slice ap np cp, .slice ak nk ck, .slice ab nb cb, .slice a5 n5 c5] 36)).frozen? ⟨w.heap.size, 9, none⟩ = false := hBp.2 9
    have HBp := Hd hBp
    have HY := Hd hy
    clear hBp hy
    go_wp2_with fail
    have hF := ((HBp.out).b10v (.string ⟨#[]⟩) (.slice none 0 0) (.int .i64 k0) (.string nm) (.bool f) (.int .u64 u) (.slice ap np cp) (.slice ak nk ck) (.slice ab nb cb) (.slice a5 n5 c5))
    have v0 := hF.1 0 _ rfl
    have v1 := hF.1 1 _ rfl
    have v2 := hF.1 2 _ rfl
    have v3 := hF.1 3 _ rfl
    have v4 := hF.1 4 _ rfl
    have v5 := hF.1 5 _ rfl
    have v6 := hF.1 6 _ rfl
    have v7 := hF.1 7 _ rfl
    have v8 := hF.1 8 _ rfl
    have v9 := hF.1 9 _ rfl
    refine bodyPost_ret (v := .agg #[.string ⟨#[]⟩, .slice none 0 0, .int .i64 k0, .string nm, .bool f, .int .u64 u, .slice ap np cp, .slice ak nk ck, .slice ab nb cb, .slice a5 n5 c5]) (by simp [results, Try.results36, go_sem, v0, v1, v2, v3, v4, v5, v6, v7, v8, v9]) rfl ?_
    rw [HPv.out]
    refine ⟨⟨.slice none 0 0, _, _, _, _, _, _, _, _, rfl, RowAt.nil _ _ _ _, HAx.out.kp (lo' := w.heap.size) ((Kp.below HY.out (by omega)).trans ((Kp.s10 (Or.inl (by omega))))) (by omega)⟩, (((((((((((H3.out.1.later HY.out)).over hlt _).over hlt _).over hlt _).over hlt _).over hlt _).over hlt _).over hlt _).over hlt _).over hlt _).over hlt _, (grown_new (grown_new (grown_new (grown_new (grown_new (grown_new (grown_new (grown_new (grown_new (grown_new (Gt (grown_of (b := b) HX.out.1) (Gt H3.out.2 (grown_of (b := b) HY.out))) Nr _) Nr _) Nr _) Nr _) Nr _) Nr _) Nr _) Nr _) Nr _) Nr _)⟩
  | cons n ns =>
    have HPv := Hd (show bindD (lastOf 1 T) (exprD (lastOf 1 T) k) s = ((n, ns, x), s3) from HPu.out)
    clear HPu
    obtain ⟨g2, rfl, kk2, ht2⟩ := own_at HNo.out (by simp)
    have p0 : w3.cell? ⟨g2, 0, none⟩ = some (.string (tx n)) := ht2 0 _ rfl
    have hcl : ns.length + 1 ≤ cN := kk2
    have fl0 : (0 : Int) < (ns.length : Int) + 1 := by omega
    have fl1 : (1 : Int) ≤ (ns.length : Int) + 1 := by omega
    simp only [List.length_cons] at *
    have hy0 := (Below.refl w3.heap.size w3).alloc Nr (.cells #[.string ⟨#[]⟩, .slice none 0 0, .int .i64 k0, .string nm, .bool f, .int .u64 u, .slice ap np cp, .slice ak nk ck, .slice ab nb cb, .slice a5 n5 c5] 36)
    have q0 := later' hy0 p0
    clear hy0 ht2 kk2
    by_cases hc1 : cN = 1
    · skip
      subst hc1
      obtain rfl : ns = [] := List.length_eq_zero_iff.1 (by omega)
      clear fl0 fl1 hcl
      simp only [List.length_nil, Nat.zero_add] at *
      have hy := (Below.refl w3.heap.size w3).alloc Nr (.cells #[.string (tx n), .slice (some ⟨g2, 0, none⟩) 0 0, .int .i64 k0, .string nm, .bool f, .int .u64 u, .slice ap np cp, .slice ak nk ck, .slice ab nb cb, .slice a5 n5 c5] 36)
      have hszA : w3.heap.size ≤ (w3.alloc (.cells #[.string (tx n), .slice (some ⟨g2, 0, none⟩) 0 0, .int .i64 k0, .string nm, .bool f, .int .u64 u, .slice ap np cp, .slice ak nk ck, .slice ab nb cb, .slice a5 n5 c5] 36)).heap.size := hy.size
      have hBp : BoxW (w3.alloc (.cells #[.string (tx n), .slice (some ⟨g2, 0, none⟩) 0 0, .int .i64 k0, .string nm, .bool f, .int .u64 u, .slice ap np cp, .slice ak nk ck, .slice ab nb cb, .slice a5 n5 c5] 36)) w.heap.size [.string ⟨#[]⟩, .slice none 0 0, .int .i64 0, .string ⟨#[]⟩, .bool false, .int .u64 0, .slice none 0 0, .slice none 0 0, .slice none 0 0, .slice none 0 0] := boxw_grown HX.out.2 (Gt H3.out.2 (grown_of (b := b) hy)) (by omega)
      have d0 : (w3.alloc (.cells #[.string (tx n), .slice (some ⟨g2, 0, none⟩) 0 0, .int .i64 k0, .string nm, .bool f, .int .u64 u, .slice ap np cp, .slice ak nk ck, .slice ab nb cb, .slice a5 n5 c5] 36)).cell? ⟨w.heap.size, 0, none⟩ = some _ := hBp.1 0 _ rfl
      have d1 : (w3.alloc (.cells #[.string (tx n), .slice (some ⟨g2, 0, none⟩) 0 0, .int .i64 k0, .string nm, .bool f, .int .u64 u, .slice ap np cp, .slice ak nk ck, .slice ab nb cb, .slice a5 n5 c5] 36)).cell? ⟨w.heap.size, 1, none⟩ = some _ := hBp.1 1 _ rfl
      have d2 : (w3.alloc (.cells #[.string (tx n), .slice (some ⟨g2, 0, none⟩) 0 0, .int .i64 k0, .string nm, .bool f, .int .u64 u, .slice ap np cp, .slice ak nk ck, .slice ab nb cb, .slice a5 n5 c5] 36)).cell? ⟨w.heap.size, 2, none⟩ = some _ := hBp.1 2 _ rfl
      have d3 : (w3.alloc (.cells #[.string (tx n), .slice (some ⟨g2, 0, none⟩) 0 0, .int .i64 k0, .string nm, .bool f, .int .u64 u, .slice ap np cp, .slice ak nk ck, .slice ab nb cb, .slice a5 n5 c5] 36)).cell? ⟨w.heap.size, 3, none⟩ = some _ := hBp.1 3 _ rfl
      have d4 : (w3.alloc (.cells #[.string (tx n), .slice (some ⟨g2, 0, none⟩) 0 0, .int .i64 k0, .string nm, .bool f, .int .u64 u, .slice ap np cp, .slice ak nk ck, .slice ab nb cb, .slice a5 n5 c5] 36)).cell? ⟨w.heap.size, 4, none⟩ = some _ := hBp.1 4 _ rfl
      have d5 : (w3.alloc (.cells #[.string (tx n), .slice (some ⟨g2, 0, none⟩) 0 0, .int .i64 k0, .string nm, .bool f, .int .u64 u, .slice ap np cp, .slice ak nk ck, .slice ab nb cb, .slice a5 n5 c5] 36)).cell? ⟨w.heap.size, 5, none⟩ = some _ := hBp.1 5 _ rfl
      have d6 : (w3.alloc (.cells #[.string (tx n), .slice (some ⟨g2, 0, none⟩) 0 0, .int .i64 k0, .string nm, .bool f, .int .u64 u, .slice ap np cp, .slice ak nk ck, .slice ab nb cb, .slice a5 n5 c5] 36)).cell? ⟨w.heap.size, 6, none⟩ = some _ := hBp.1 6 _ rfl
      have d7 : (w3.alloc (.cells #[.string (tx n), .slice (some ⟨g2, 0, none⟩) 0 0, .int .i64 k0, .string nm, .bool f, .int .u64 u, .slice ap np cp, .slice ak nk ck, .slice ab nb cb, .slice a5 n5 c5] 36)).cell? ⟨w.heap.size, 7, none⟩ = some _ := hBp.1 7 _ rfl
      have d8 : (w3.alloc (.cells #[.string (tx n), .slice (some ⟨g2, 0, none⟩) 0 0, .int .i64 k0, .string nm, .bool f, .int .u64 u, .slice ap np cp, .slice ak nk ck, .slice ab nb cb, .slice a5 n5 c5] 36)).cell? ⟨w.heap.size, 8, none⟩ = some _ := hBp.1 8 _ rfl
      have d9 : (w3.alloc (.cells #[.string (tx n), .slice (some ⟨g2, 0, none⟩) 0 0, .int .i64 k0, .string nm, .bool f, .int .u64 u, .slice ap np cp, .slice ak nk ck, .slice ab nb cb, .slice a5 n5 c5] 36)).cell? ⟨w.heap.size, 9, none⟩ = some _ := hBp.1 9 _ rfl
      have z0 : (w3.alloc (.cells #[.string (tx n), .slice (some ⟨g2, 0, none⟩) 0 0, .int .i64 k0, .string nm, .bool f, .int .u64 u, .slice ap np cp, .slice ak nk ck, .slice ab nb cb, .slice a5 n5 c5] 36)).frozen? ⟨w.heap.size, 0, none⟩ = false := hBp.2 0
      have z1 : (w3.alloc (.cells #[.string (tx n), .slice (some ⟨g2, 0, none⟩) 0 0, .int .i64 k0, .string nm, .bool f, .int .u64 u, .slice ap np cp, .slice ak nk ck, .slice ab nb cb, .slice a5 n5 c5] 36)).frozen? ⟨w.heap.size, 1, none⟩ = false := hBp.2 1
      have z2 : (w3.alloc (.cells #[.string (tx n), .slice (some ⟨g2, 0, none⟩) 0 0, .int .i64 k0, .string nm, .bool f, .int .u64 u, .slice ap np cp, .slice ak nk ck, .slice ab nb cb, .slice a5 n5 c5] 36)).frozen? ⟨w.heap.size, 2, none⟩ = false := hBp.2 2
      have z3 : (w3.alloc (.cells #[.string (tx n), .slice (some ⟨g2, 0, none⟩) 0 0, .int .i64 k0, .string nm, .bool f, .int .u64 u, .slice ap np cp, .slice ak nk ck, .slice ab nb cb, .slice a5 n5 c5] 36)).frozen? ⟨w.heap.size, 3, none⟩ = false := hBp.2 3
      have z4 : (w3.alloc (.cells #[.string (tx n), .slice (some ⟨g2, 0, none⟩) 0 0, .int .i64 k0, .string nm, .bool f, .int .u64 u, .slice ap np cp, .slice ak nk ck, .slice ab nb cb, .slice a5 n5 c5] 36)).frozen? ⟨w.heap.size, 4, none⟩ = false := hBp.2 4
      have z5 : (w3.alloc (.cells #[.string (tx n), .slice (some ⟨g2, 0, none⟩) 0 0, .int .i64 k0, .string nm, .bool f, .int .u64 u, .slice ap np cp, .slice ak nk ck, .slice ab nb cb, .slice a5 n5 c5] 36)).frozen? ⟨w.heap.size, 5, none⟩ = false := hBp.2 5
      have z6 : (w3.alloc (.cells #[.string (tx n), .slice (some ⟨g2, 0, none⟩) 0 0, .int .i64 k0, .string nm, .bool f, .int .u64 u, .slice ap np cp, .slice ak nk ck, .slice ab nb cb, .slice a5 n5 c5] 36)).frozen? ⟨w.heap.size, 6, none⟩ = false := hBp.2 6
      have z7 : (w3.alloc (.cells #[.string (tx n), .slice (some ⟨g2, 0, none⟩) 0 0, .int .i64 k0, .string nm, .bool f, .int .u64 u, .slice ap np cp, .slice ak nk ck, .slice ab nb cb, .slice a5 n5 c5] 36)).frozen? ⟨w.heap.size, 7, none⟩ = false := hBp.2 7
      have z8 : (w3.alloc (.cells #[.string (tx n), .slice (some ⟨g2, 0, none⟩) 0 0, .int .i64 k0, .string nm, .bool f, .int .u64 u, .slice ap np cp, .slice ak nk ck, .slice ab nb cb, .slice a5 n5 c5] 36)).frozen? ⟨w.heap.size, 8, none⟩ = false := hBp.2 8
      have z9 : (w3.alloc (.cells #[.string (tx n), .slice (some ⟨g2, 0, none⟩) 0 0, .int .i64 k0, .string nm, .bool f, .int .u64 u, .slice ap np cp, .slice ak nk ck, .slice ab nb cb, .slice a5 n5 c5] 36)).frozen? ⟨w.heap.size, 9, none⟩ = false := hBp.2 9
      have HBp := Hd hBp
      have HY := Hd hy
      clear hBp hy
      go_wp2_with fail
      have hF := ((HBp.out).b10v (.string (tx n)) (.slice (some ⟨g2, 0, none⟩) 0 0) (.int .i64 k0) (.string nm) (.bool f) (.int .u64 u) (.slice ap np cp) (.slice ak nk ck) (.slice ab nb cb) (.slice a5 n5 c5))
      have v0 := hF.1 0 _ rfl
      have v1 := hF.1 1 _ rfl
      have v2 := hF.1 2 _ rfl
      have v3 := hF.1 3 _ rfl
      have v4 := hF.1 4 _ rfl
      have v5 := hF.1 5 _ rfl
      have v6 := hF.1 6 _ rfl
      have v7 := hF.1 7 _ rfl
      have v8 := hF.1 8 _ rfl
      have v9 := hF.1 9 _ rfl
      refine bodyPost_ret (v := .agg #[.string (tx n), .slice (some ⟨g2, 0, none⟩) 0 0, .int .i64 k0, .string nm, .bool f, .int .u64 u, .slice ap np cp, .slice ak nk ck, .slice ab nb cb, .slice a5 n5 c5]) (by simp [results, Try.results36, go_sem, v0, v1, v2, v3, v4, v5, v6, v7, v8, v9]) rfl ?_
      rw [HPv.out]
      refine ⟨⟨.slice (some ⟨g2, 0, none⟩) 0 0, _, _, _, _, _, _, _, _, rfl, ((RowAt.own HNo.out).tail (n := 0) (cs := [.string (tx n)]) rfl (Or.inl rfl)).kp (lo' := w.heap.size) ((Kp.below HY.out (by omega)).trans ((Kp.s10 (Or.inl (by omega))))) (by omega), HAx.out.kp (lo' := w.heap.size) ((Kp.below HY.out (by omega)).trans ((Kp.s10 (Or.inl (by omega))))) (by omega)⟩, (((((((((((H3.out.1.later HY.out)).over hlt _).over hlt _).over hlt _).over hlt _).over hlt _).over hlt _).over hlt _).over hlt _).over hlt _).over hlt _, (grown_new (grown_new (grown_new (grown_new (grown_new (grown_new (grown_new (grown_new (grown_new (grown_new (Gt (grown_of (b := b) HX.out.1) (Gt H3.out.2 (grown_of (b := b) HY.out))) Nr _) Nr _) Nr _) Nr _) Nr _) Nr _) Nr _) Nr _) Nr _) Nr _)⟩
    · skip
      have hy := (Below.refl w3.heap.size w3).alloc Nr (.cells #[.string (tx n), .slice (some ⟨g2, 1, none⟩) ns.length (cN - 1), .int .i64 k0, .string nm, .bool f, .int .u64 u, .slice ap np cp, .slice ak nk ck, .slice ab nb cb, .slice a5 n5 c5] 36)
      have hszA : w3.heap.size ≤ (w3.alloc (.cells #[.string (tx n), .slice (some ⟨g2, 1, none⟩) ns.length (cN - 1), .int .i64 k0, .string nm, .bool f, .int .u64 u, .slice ap np cp, .slice ak nk ck, .slice ab nb cb, .slice a5 n5 c5] 36)).heap.size := hy.size
      have hBp : BoxW (w3.alloc (.cells #[.string (tx n), .slice (some ⟨g2, 1, none⟩) ns.length (cN - 1), .int .i64 k0, .string nm, .bool f, .int .u64 u, .slice ap np cp, .slice ak nk ck, .slice ab nb cb, .slice a5 n5 c5] 36)) w.heap.size [.string ⟨#[]⟩, .slice none 0 0, .int .i64 0, .string ⟨#[]⟩, .bool false, .int .u64 0, .slice none 0 0, .slice none 0 0, .slice none 0 0, .slice none 0 0] := boxw_grown HX.out.2 (Gt H3.out.2 (grown_of (b := b) hy)) (by omega)
      have d0 : (w3.alloc (.cells #[.string (tx n), .slice (some ⟨g2, 1, none⟩) ns.length (cN - 1), .int .i64 k0, .string nm, .bool f, .int .u64 u, .slice ap np cp, .slice ak nk ck, .slice ab nb cb, .slice a5 n5 c5] 36)).cell? ⟨w.heap.size, 0, none⟩ = some _ := hBp.1 0 _ rfl
      have d1 : (w3.alloc (.cells #[.string (tx n), .slice (some ⟨g2, 1, none⟩) ns.length (cN - 1), .int .i64 k0, .string nm, .bool f, .int .u64 u, .slice ap np cp, .slice ak nk ck, .slice ab nb cb, .slice a5 n5 c5] 36)).cell? ⟨w.heap.size, 1, none⟩ = some _ := hBp.1 1 _ rfl
      have d2 : (w3.alloc (.cells #[.string (tx n), .slice (some ⟨g2, 1, none⟩) ns.length (cN - 1), .int .i64 k0, .string nm, .bool f, .int .u64 u, .slice ap np cp, .slice ak nk ck, .slice ab nb cb, .slice a5 n5 c5] 36)).cell? ⟨w.heap.size, 2, none⟩ = some _ := hBp.1 2 _ rfl
      have d3 : (w3.alloc (.cells #[.string (tx n), .slice (some ⟨g2, 1, none⟩) ns.length (cN - 1), .int .i64 k0, .string nm, .bool f, .int .u64 u, .slice ap np cp, .slice ak nk ck, .slice ab nb cb, .slice a5 n5 c5] 36)).cell? ⟨w.heap.size, 3, none⟩ = some _ := hBp.1 3 _ rfl
      have d4 : (w3.alloc (.cells #[.string (tx n), .slice (some ⟨g2, 1, none⟩) ns.length (cN - 1), .int .i64 k0, .string nm, .bool f, .int .u64 u, .slice ap np cp, .slice ak nk ck, .slice ab nb cb, .slice a5 n5 c5] 36)).cell? ⟨w.heap.size, 4, none⟩ = some _ := hBp.1 4 _ rfl
      have d5 : (w3.alloc (.cells #[.string (tx n), .slice (some ⟨g2, 1, none⟩) ns.length (cN - 1), .int .i64 k0, .string nm, .bool f, .int .u64 u, .slice ap np cp, .slice ak nk ck, .slice ab nb cb, .slice a5 n5 c5] 36)).cell? ⟨w.heap.size, 5, none⟩ = some _ := hBp.1 5 _ rfl
      have d6 : (w3.alloc (.cells #[.string (tx n), .slice (some ⟨g2, 1, none⟩) ns.length (cN - 1), .int .i64 k0, .string nm, .bool f, .int .u64 u, .slice ap np cp, .slice ak nk ck, .slice ab nb cb, .slice a5 n5 c5] 36)).cell? ⟨w.heap.size, 6, none⟩ = some _ := hBp.1 6 _ rfl
      have d7 : (w3.alloc (.cells #[.string (tx n), .slice (some ⟨g2, 1, none⟩) ns.length (cN - 1), .int .i64 k0, .string nm, .bool f, .int .u64 u, .slice ap np cp, .slice ak nk ck, .slice ab nb cb, .slice a5 n5 c5] 36)).cell? ⟨w.heap.size, 7, none⟩ = some _ := hBp.1 7 _ rfl
      have d8 : (w3.alloc (.cells #[.string (tx n), .slice (some ⟨g2, 1, none⟩) ns.length (cN - 1), .int .i64 k0, .string nm, .bool f, .int .u64 u, .slice ap np cp, .slice ak nk ck, .slice ab nb cb, .slice a5 n5 c5] 36)).cell? ⟨w.heap.size, 8, none⟩ = some _ := hBp.1 8 _ rfl
      have d9 : (w3.alloc (.cells #[.string (tx n), .slice (some ⟨g2, 1, none⟩) ns.length (cN - 1), .int .i64 k0, .string nm, .bool f, .int .u64 u, .slice ap np cp, .slice ak nk ck, .slice ab nb cb, .slice a5 n5 c5] 36)).cell? ⟨w.heap.size, 9, none⟩ = some _ := hBp.1 9 _ rfl
      have z0 : (w3.alloc (.cells #[.string (tx n), .slice (some ⟨g2, 1, none⟩) ns.length (cN - 1), .int .i64 k0, .string nm, .bool f, .int .u64 u, .slice ap np cp, .slice ak nk ck, .slice ab nb cb, .slice a5 n5 c5] 36)).frozen? ⟨w.heap.size, 0, none⟩ = false := hBp.2 0
      have z1 : (w3.alloc (.cells #[.string (tx n), .slice (some ⟨g2, 1, none⟩) ns.length (cN - 1), .int .i64 k0, .string nm, .bool f, .int .u64 u, .slice ap np cp, .slice ak nk ck, .slice ab nb cb, .slice a5 n5 c5] 36)).frozen? ⟨w.heap.size, 1, none⟩ = false := hBp.2 1
      have z2 : (w3.alloc (.cells #[.string (tx n), .slice (some ⟨g2, 1, none⟩) ns.length (cN - 1), .int .i64 k0, .string nm, .bool f, .int .u64 u, .slice ap np cp, .slice ak nk ck, .slice ab nb cb, .slice a5 n5 c5] 36)).frozen? ⟨w.heap.size, 2, none⟩ = false := hBp.2 2
      have z3 : (w3.alloc (.cells #[.string (tx n), .slice (some ⟨g2, 1, none⟩) ns.length (cN - 1), .int .i64 k0, .string nm, .bool f, .int .u64 u, .slice ap np cp, .slice ak nk ck, .slice ab nb cb, .slice a5 n5 c5] 36)).frozen? ⟨w.heap.size, 3, none⟩ = false := hBp.2 3
      have z4 : (w3.alloc (.cells #[.string (tx n), .slice (some ⟨g2, 1, none⟩) ns.length (cN - 1), .int .i64 k0, .string nm, .bool f, .int .u64 u, .slice ap np cp, .slice ak nk ck, .slice ab nb cb, .slice a5 n5 c5] 36)).frozen? ⟨w.heap.size, 4, none⟩ = false := hBp.2 4
      have z5 : (w3.alloc (.cells #[.string (tx n), .slice (some ⟨g2, 1, none⟩) ns.length (cN - 1), .int .i64 k0, .string nm, .bool f, .int .u64 u, .slice ap np cp, .slice ak nk ck, .slice ab nb cb, .slice a5 n5 c5] 36)).frozen? ⟨w.heap.size, 5, none⟩ = false := hBp.2 5
      have z6 : (w3.alloc (.cells #[.string (tx n), .slice (some ⟨g2, 1, none⟩) ns.length (cN - 1), .int .i64 k0, .string nm, .bool f, .int .u64 u, .slice ap np cp, .slice ak nk ck, .slice ab nb cb, .slice a5 n5 c5] 36)).frozen? ⟨w.heap.size, 6, none⟩ = false := hBp.2 6
      have z7 : (w3.alloc (.cells #[.string (tx n), .slice (some ⟨g2, 1, none⟩) ns.length (cN - 1), .int .i64 k0, .string nm, .bool f, .int .u64 u, .slice ap np cp, .slice ak nk ck, .slice ab nb cb, .slice a5 n5 c5] 36)).frozen? ⟨w.heap.size, 7, none⟩ = false := hBp.2 7
      have z8 : (w3.alloc (.cells #[.string (tx n), .slice (some ⟨g2, 1, none⟩) ns.length (cN - 1), .int .i64 k0, .string nm, .bool f, .int .u64 u, .slice ap np cp, .slice ak nk ck, .slice ab nb cb, .slice a5 n5 c5] 36)).frozen? ⟨w.heap.size, 8, none⟩ = false := hBp.2 8
      have z9 : (w3.alloc (.cells #[.string (tx n), .slice (some ⟨g2, 1, none⟩) ns.length (cN - 1), .int .i64 k0, .string nm, .bool f, .int .u64 u, .slice ap np cp, .slice ak nk ck, .slice ab nb cb, .slice a5 n5 c5] 36)).frozen? ⟨w.heap.size, 9, none⟩ = false := hBp.2 9
      have HBp := Hd hBp
      have HY := Hd hy
      clear hBp hy
      go_wp2_with fail
      have hF := ((HBp.out).b10v (.string (tx n)) (.slice (some ⟨g2, 1, none⟩) ns.length (cN - 1)) (.int .i64 k0) (.string nm) (.bool f) (.int .u64 u) (.slice ap np cp) (.slice ak nk ck) (.slice ab nb cb) (.slice a5 n5 c5))
      have v0 := hF.1 0 _ rfl
      have v1 := hF.1 1 _ rfl
      have v2 := hF.1 2 _ rfl
      have v3 := hF.1 3 _ rfl
      have v4 := hF.1 4 _ rfl
      have v5 := hF.1 5 _ rfl
      have v6 := hF.1 6 _ rfl
      have v7 := hF.1 7 _ rfl
      have v8 := hF.1 8 _ rfl
      have v9 := hF.1 9 _ rfl
      refine bodyPost_ret (v := .agg #[.string (tx n), .slice (some ⟨g2, 1, none⟩) ns.length (cN - 1), .int .i64 k0, .string nm, .bool f, .int .u64 u, .slice ap np cp, .slice ak nk ck, .slice ab nb cb, .slice a5 n5 c5]) (by simp [results, Try.results36, go_sem, v0, v1, v2, v3, v4, v5, v6, v7, v8, v9]) rfl ?_
      rw [HPv.out]
      refine ⟨⟨.slice (some ⟨g2, 1, none⟩) ns.length (cN - 1), _, _, _, _, _, _, _, _, rfl, ((RowAt.own HNo.out).tail (n := ns.length) (cs := [.string (tx n)]) rfl (Or.inr rfl)).kp (lo' := w.heap.size) ((Kp.below HY.out (by omega)).trans ((Kp.s10 (Or.inl (by omega))))) (by omega), HAx.out.kp (lo' := w.heap.size) ((Kp.below HY.out (by omega)).trans ((Kp.s10 (Or.inl (by omega))))) (by omega)⟩, (((((((((((H3.out.1.later HY.out)).over hlt _).over hlt _).over hlt _).over hlt _).over hlt _).over hlt _).over hlt _).over hlt _).over hlt _).over hlt _, (grown_new (grown_new (grown_new (grown_new (grown_new (grown_new (grown_new (grown_new (grown_new (grown_new (Gt (grown_of (b := b) HX.out.1) (Gt H3.out.2 (grown_of (b := b) HY.out))) Nr _) Nr _) Nr _) Nr _) Nr _) Nr _) Nr _) Nr _) Nr _) Nr _)⟩
theorem dalt_any (b : Nat) (T : List Tok) (k : Nat) (hEx : ExprDC b T k) (dd : Int) (hd : IntKind.i64.wrap (dd + 1) = 201 - (k : Int)) (s : St) (w : World) (hP : PAt w b T s) : Calls Try.prog 71 #[.pointer (some ⟨b, 0, none⟩), .int .i64 dd] w (DSaid b T (AltV w.heap.size) (altD (lastOf 1 T) (exprD (lastOf 1 T) k) s) w) := by
  have hlt : b < w.heap.size := hP.lt
  have hx := (Below.refl w.heap.size w).alloc Nr (.cells #[.int .i64 0, .string ⟨#[]⟩, .bool false, .int .u64 0, .slice none 0 0, .int .i64 0, .string ⟨#[]⟩, .bool false, .int .u64 0, .slice none 0 0, .slice none 0 0, .slice none 0 0, .slice none 0 0] 51)
  have HX := Hd (Ai hx (BoxW.alloc w #[.int .i64 0, .string ⟨#[]⟩, .bool false, .int .u64 0, .slice none 0 0, .int .i64 0, .string ⟨#[]⟩, .bool false, .int .u64 0, .slice none 0 0, .slice none 0 0, .slice none 0 0, .slice none 0 0] 51))
  have H0 := Hd (Ai (hP.later hx) (grown_of (b := b) (Below.refl (w.alloc (.cells #[.int .i64 0, .string ⟨#[]⟩, .bool false, .int .u64 0, .slice none 0 0, .int .i64 0, .string ⟨#[]⟩, .bool false, .int .u64 0, .slice none 0 0, .slice none 0 0, .slice none 0 0, .slice none 0 0] 51)).heap.size (w.alloc (.cells #[.int .i64 0, .string ⟨#[]⟩, .bool false, .int .u64 0, .slice none 0 0, .int .i64 0, .string ⟨#[]⟩, .bool false, .int .u64 0, .slice none 0 0, .slice none 0 0, .slice none 0 0, .slice none 0 0] 51)))))
  have HT0 := Hd hP.n
  clear hx hP
  go_enter Try.func71, Try.ntmps71
  go_upto_region 1 with fail
  have hsz0 : w.heap.size + 1 ≤ (w.alloc (.cells #[.int .i64 0, .string ⟨#[]⟩, .bool false, .int .u64 0, .slice none 0 0, .int .i64 0, .string ⟨#[]⟩, .bool false, .int .u64 0, .slice none 0 0, .slice none 0 0, .slice none 0 0, .slice none 0 0] 51)).heap.size := by simp
  generalize (w.alloc (.cells #[.int .i64 0, .string ⟨#[]⟩, .bool false, .int .u64 0, .slice none 0 0, .int .i64 0, .string ⟨#[]⟩, .bool false, .int .u64 0, .slice none 0 0, .slice none 0 0, .slice none 0 0, .slice none 0 0] 51)) = W at *
  have hy := (Below.refl W.heap.size W).alloc Nr (.cells #[.int .i64 0, .string ⟨#[]⟩, .bool false, .int .u64 0, .slice none 0 0, .int .i64 0, .string ⟨#[]⟩, .bool false, .int .u64 0, .slice none 0 0, .slice none 0 0, .slice none 0 0, .slice none 0 0] 51)
  have HBq := Hd (BoxW.alloc W #[.int .i64 0, .string ⟨#[]⟩, .bool false, .int .u64 0, .slice none 0 0, .int .i64 0, .string ⟨#[]⟩, .bool false, .int .u64 0, .slice none 0 0, .slice none 0 0, .slice none 0 0, .slice none 0 0] 51)
  have HG1 := Hd (grown_of (b := b) hy)
  have hsz1 : W.heap.size + 1 ≤ (W.alloc (.cells #[.int .i64 0, .string ⟨#[]⟩, .bool false, .int .u64 0, .slice none 0 0, .int .i64 0, .string ⟨#[]⟩, .bool false, .int .u64 0, .slice none 0 0, .slice none 0 0, .slice none 0 0, .slice none 0 0] 51)).heap.size := by simp
  have H1 := Hd (Ai (H0.out.1.later hy) (Gt H0.out.2 HG1.out))
  clear hy
  go_upto_region 2 with fail
  generalize (W.alloc (.cells #[.int .i64 0, .string ⟨#[]⟩, .bool false, .int .u64 0, .slice none 0 0, .int .i64 0, .string ⟨#[]⟩, .bool false, .int .u64 0, .slice none 0 0, .slice none 0 0, .slice none 0 0, .slice none 0 0] 51)) = w1 at *
  have HC := Hd (dkind_any b T s w1 H1.out.1)
  go_wp2_with fail
  refine HC.out.mono ?_
  rintro e w2 ⟨rfl, hb⟩
  have HG2 := Hd (grown_of (b := b) hb)
  have hsz2 : w1.heap.size ≤ w2.heap.size := hb.size
  have H2 := Hd (Ai (H1.out.1.later hb) (Gt H1.out.2 HG2.out))
  clear HC hb
  replace HBq := Hd (boxw_grown HBq.out HG2.out (by omega))
  by_cases hk : kindL s.r = 2
  · have kk : (kindL s.r == 2) = true := by simp [hk]
    have HPu := Hd (show altD (lastOf 1 T) (exprD (lastOf 1 T) k) s = _ from if_pos hk)
    clear hk
    have q0 : w2.cell? ⟨W.heap.size, 0, none⟩ = some _ := HBq.out.1 0 _ rfl
    have z0 : w2.frozen? ⟨W.heap.size, 0, none⟩ = false := HBq.out.2 0
    go_wp2_with fail
    have HBn := Hd (show BoxW (w2.setCell ⟨W.heap.size, 0, none⟩ (.int .i64 0)) W.heap.size [.int .i64 0, .string ⟨#[]⟩, .bool false, .int .u64 0, .slice none 0 0, .int .i64 0, .string ⟨#[]⟩, .bool false, .int .u64 0, .slice none 0 0, .slice none 0 0, .slice none 0 0, .slice none 0 0] from (HBq.out).set 0 (show 0 < 13 by decide) (.int .i64 0))
    have H3 := Hd (Ai (show PAt (w2.setCell ⟨W.heap.size, 0, none⟩ (.int .i64 0)) b T (s) from (H2.out.1).over (show b < W.heap.size by omega) _) (show W.grownBy (w2.setCell ⟨W.heap.size, 0, none⟩ (.int .i64 0)) (some b) from (grown_new H2.out.2 (show W.heap.size ≤ W.heap.size by omega) _)))
    have HK3 := Hd (show ∀ lo hi, W.heap.size < lo → Kp lo hi w2 (w2.setCell ⟨W.heap.size, 0, none⟩ (.int .i64 0)) from fun lo hi h => (Kp.set _ _ _ _ (Or.inl h)))
    have hsz3 : w2.heap.size ≤ (w2.setCell ⟨W.heap.size, 0, none⟩ (.int .i64 0)).heap.size := by simp
    clear HBq q0 z0
    have HBq := HBn
    clear HBn
    generalize (w2.setCell ⟨W.heap.size, 0, none⟩ (.int .i64 0)) = w3 at *
    refine (dtok_any b T (s) 2 (by decide) w3 H3.out.1).mono ?_
    rintro e w4 ⟨hv, hP, hg⟩
    have HG4 := Hd hg
    have hsz4 : w3.heap.size ≤ w4.heap.size := hg.size
    have H4 := Hd (Ai hP (Gt H3.out.2 hg))
    clear hP hg
    unfold TokV at hv
    subst hv
    generalize tokD (lastOf 1 T) 2 (s) = Q at *
    obtain ⟨y, s1⟩ := Q
    have hf1 := fun W => tok_field1 y.1.k (tx y.1.t) y.1.f y.1.x y.2 W
    have hf2 := fun W => tok_field2 y.1.k (tx y.1.t) y.1.f y.1.x y.2 W
    replace HBq := Hd (boxw_grown HBq.out HG4.out (by omega))
    have q1 : w4.cell? ⟨W.heap.size, 1, none⟩ = some _ := HBq.out.1 1 _ rfl
    have z1 : w4.frozen? ⟨W.heap.size, 1, none⟩ = false := HBq.out.2 1
    go_wp2_with fail
    have HBn := Hd (show BoxW (w4.setCell ⟨W.heap.size, 1, none⟩ (.string (tx y.1.t))) W.heap.size [.int .i64 0, .string (tx y.1.t), .bool false, .int .u64 0, .slice none 0 0, .int .i64 0, .string ⟨#[]⟩, .bool false, .int .u64 0, .slice none 0 0, .slice none 0 0, .slice none 0 0, .slice none 0 0] from (HBq.out).set 1 (show 1 < 13 by decide) (.string (tx y.1.t)))
    have H5 := Hd (Ai (show PAt (w4.setCell ⟨W.heap.size, 1, none⟩ (.string (tx y.1.t))) b T (s1) from (H4.out.1).over (show b < W.heap.size by omega) _) (show W.grownBy (w4.setCell ⟨W.heap.size, 1, none⟩ (.string (tx y.1.t))) (some b) from (grown_new H4.out.2 (show W.heap.size ≤ W.heap.size by omega) _)))
    have HK5 := Hd (show ∀ lo hi, W.heap.size < lo → Kp lo hi w4 (w4.setCell ⟨W.heap.size, 1, none⟩ (.string (tx y.1.t))) from fun lo hi h => (Kp.set _ _ _ _ (Or.inl h)))
    have hsz5 : w4.heap.size ≤ (w4.setCell ⟨W.heap.size, 1, none⟩ (.string (tx y.1.t))).heap.size := by simp
    clear HBq q1 z1
    have HBq := HBn
    clear HBn
    generalize (w4.setCell ⟨W.heap.size, 1, none⟩ (.string (tx y.1.t))) = w5 at *
    clear hf1 hf2
    refine (show Calls Try.prog 56 #[.pointer (some ⟨b, 0, none⟩), .int .i64 0] w5 (DSaid b T (NmsV w5.heap.size) (namesD (lastOf 1 T) false (s1)) w5) from dnames_any b T (s1) false w5 H5.out.1).mono ?_
    rintro e w6 ⟨⟨v, rfl, hown⟩, hP, hg⟩
    have HG6 := Hd hg
    have hsz6 : w5.heap.size ≤ w6.heap.size := hg.size
    have H6 := Hd (Ai hP (Gt H5.out.2 hg))
    clear hP hg
    obtain ⟨aN, cN, rfl, -⟩ := own_shape hown
    have HNo := Hd hown
    clear hown
    generalize namesD (lastOf 1 T) false (s1) = Q at *
    obtain ⟨ns, s2⟩ := Q
    replace HBq := Hd (boxw_grown HBq.out HG6.out (by omega))
    have q4 : w6.cell? ⟨W.heap.size, 4, none⟩ = some _ := HBq.out.1 4 _ rfl
    have z4 : w6.frozen? ⟨W.heap.size, 4, none⟩ = false := HBq.out.2 4
    go_wp2_with fail
    have HBn := Hd (show BoxW (w6.setCell ⟨W.heap.size, 4, none⟩ (.slice aN ns.length cN)) W.heap.size [.int .i64 0, .string (tx y.1.t), .bool false, .int .u64 0, .slice aN ns.length cN, .int .i64 0, .string ⟨#[]⟩, .bool false, .int .u64 0, .slice none 0 0, .slice none 0 0, .slice none 0 0, .slice none 0 0] from (HBq.out).set 4 (show 4 < 13 by decide) (.slice aN ns.length cN))
    have H7 := Hd (Ai (show PAt (w6.setCell ⟨W.heap.size, 4, none⟩ (.slice aN ns.length cN)) b T (s2) from (H6.out.1).over (show b < W.heap.size by omega) _) (show W.grownBy (w6.setCell ⟨W.heap.size, 4, none⟩ (.slice aN ns.length cN)) (some b) from (grown_new H6.out.2 (show W.heap.size ≤ W.heap.size by omega) _)))
    have HK7 := Hd (show ∀ lo hi, W.heap.size < lo → Kp lo hi w6 (w6.setCell ⟨W.heap.size, 4, none⟩ (.slice aN ns.length cN)) from fun lo hi h => (Kp.set _ _ _ _ (Or.inl h)))
    have hsz7 : w6.heap.size ≤ (w6.setCell ⟨W.heap.size, 4, none⟩ (.slice aN ns.length cN)).heap.size := by simp
    have HRn := Hd (own_o HNo.out (set_grown _ W.heap.size 4 (.slice aN ns.length cN)) (fun g e e2 => by have := (HNo.out.lt g e).1; have := Oi e2; omega))
    clear HNo
    have HNo := HRn
    clear HRn
    clear HBq q4 z4
    have HBq := HBn
    clear HBn
    generalize (w6.setCell ⟨W.heap.size, 4, none⟩ (.slice aN ns.length cN)) = w7 at *
    refine (dneed_any b T (s2) [45, 62] w7 H7.out.1).mono ?_
    rintro e w8 ⟨rfl, hP, hg⟩
    have HG8 := Hd hg
    have hsz8 : w7.heap.size ≤ w8.heap.size := hg.size
    have H8 := Hd (Ai hP (Gt H7.out.2 hg))
    clear hP hg
    replace HBq := Hd (boxw_grown HBq.out HG8.out (by omega))
    have HNn := Hd (own_kept HNo.out HG8.out (fun e => by have := (HNo.out.lt b e).1; omega))
    clear HNo
    have HNo := HNn
    clear HNn
    go_wp2_with fail
    refine (show Calls Try.prog 57 #[.pointer (some ⟨b, 0, none⟩), .int .i64 (201 - (k : Int))] w8 _ from hEx (needD (lastOf 1 T) [45, 62] (s2)) w8 H8.out.1).mono ?_
    rintro e w9 ⟨⟨k0, nm, f, u, vp, vk, vb, va, rfl, hat⟩, hP, hg⟩
    have HG9 := Hd hg
    have hsz9 : w8.heap.size ≤ w9.heap.size := hg.size
    have H9 := Hd (Ai hP (Gt H8.out.2 hg))
    clear hP hg
    obtain ⟨⟨ap, np, cp, rfl⟩, ⟨ak, nk, ck, rfl⟩, ⟨ab, nb, cb, rfl⟩, ⟨a5, n5, c5, rfl⟩⟩ := hat.slices
    have HAx := Hd hat
    clear hat
    generalize (exprD (lastOf 1 T) k) (needD (lastOf 1 T) [45, 62] (s2)) = Q at *
    obtain ⟨x, s3⟩ := Q
    replace HBq := Hd (boxw_grown HBq.out HG9.out (by omega))
    have HNn := Hd (own_kept HNo.out HG9.out (fun e => by have := (HNo.out.lt b e).1; omega))
    clear HNo
    have HNo := HNn
    clear HNn
    have q5 : w9.cell? ⟨W.heap.size, 5, none⟩ = some _ := HBq.out.1 5 _ rfl
    have z5 : w9.frozen? ⟨W.heap.size, 5, none⟩ = false := HBq.out.2 5
    have q6 : w9.cell? ⟨W.heap.size, 6, none⟩ = some _ := HBq.out.1 6 _ rfl
    have z6 : w9.frozen? ⟨W.heap.size, 6, none⟩ = false := HBq.out.2 6
    have q7 : w9.cell? ⟨W.heap.size, 7, none⟩ = some _ := HBq.out.1 7 _ rfl
    have z7 : w9.frozen? ⟨W.heap.size, 7, none⟩ = false := HBq.out.2 7
    have q8 : w9.cell? ⟨W.heap.size, 8, none⟩ = some _ := HBq.out.1 8 _ rfl
    have z8 : w9.frozen? ⟨W.heap.size, 8, none⟩ = false := HBq.out.2 8
    have q9 : w9.cell? ⟨W.heap.size, 9, none⟩ = some _ := HBq.out.1 9 _ rfl
    have z9 : w9.frozen? ⟨W.heap.size, 9, none⟩ = false := HBq.out.2 9
    have q10 : w9.cell? ⟨W.heap.size, 10, none⟩ = some _ := HBq.out.1 10 _ rfl
    have z10 : w9.frozen? ⟨W.heap.size, 10, none⟩ = false := HBq.out.2 10
    have q11 : w9.cell? ⟨W.heap.size, 11, none⟩ = some _ := HBq.out.1 11 _ rfl
    have z11 : w9.frozen? ⟨W.heap.size, 11, none⟩ = false := HBq.out.2 11
    have q12 : w9.cell? ⟨W.heap.size, 12, none⟩ = some _ := HBq.out.1 12 _ rfl
    have z12 : w9.frozen? ⟨W.heap.size, 12, none⟩ = false := HBq.out.2 12
    go_upto_region 14 with fail
    obtain ⟨w10, hq⟩ : ∃ q, q = ((((((((w9.setCell ⟨W.heap.size, 5, none⟩ (.int .i64 k0)).setCell ⟨W.heap.size, 6, none⟩ (.string nm)).setCell ⟨W.heap.size, 7, none⟩ (.bool f)).setCell ⟨W.heap.size, 8, none⟩ (.int .u64 u)).setCell ⟨W.heap.size, 9, none⟩ (.slice ap np cp)).setCell ⟨W.heap.size, 10, none⟩ (.slice ak nk ck)).setCell ⟨W.heap.size, 11, none⟩ (.slice ab nb cb)).setCell ⟨W.heap.size, 12, none⟩ (.slice a5 n5 c5)) := ⟨_, rfl⟩
    have HBn := Hd (show BoxW w10 W.heap.size [.int .i64 0, .string (tx y.1.t), .bool false, .int .u64 0, .slice aN ns.length cN, .int .i64 k0, .string nm, .bool f, .int .u64 u, .slice ap np cp, .slice ak nk ck, .slice ab nb cb, .slice a5 n5 c5] by subst hq; exact ((HBq.out)).b13_5_8)
    have H10 := Hd (Ai (show PAt w10 b T (s3) by subst hq; exact (H9.out.1).o8 (show b < W.heap.size by omega)) (show W.grownBy w10 (some b) by subst hq; exact (gn8 H9.out.2 (show W.heap.size ≤ W.heap.size by omega))))
    have HK10 := Hd (show ∀ lo hi, W.heap.size < lo → Kp lo hi w9 w10 by subst hq; exact fun lo hi h => ((Kp.s8 (Or.inl h))))
    have hsz10 : w9.heap.size ≤ w10.heap.size := by subst hq; simp
    have HRn := Hd (own_o (own_o (own_o (own_o (own_o (own_o (own_o (own_o HNo.out (set_grown _ W.heap.size 5 (.int .i64 k0)) (fun g e e2 => by have := (HNo.out.lt g e).1; have := Oi e2; omega)) (set_grown _ W.heap.size 6 (.string nm)) (fun g e e2 => by have := (HNo.out.lt g e).1; have := Oi e2; omega)) (set_grown _ W.heap.size 7 (.bool f)) (fun g e e2 => by have := (HNo.out.lt g e).1; have := Oi e2; omega)) (set_grown _ W.heap.size 8 (.int .u64 u)) (fun g e e2 => by have := (HNo.out.lt g e).1; have := Oi e2; omega)) (set_grown _ W.heap.size 9 (.slice ap np cp)) (fun g e e2 => by have := (HNo.out.lt g e).1; have := Oi e2; omega)) (set_grown _ W.heap.size 10 (.slice ak nk ck)) (fun g e e2 => by have := (HNo.out.lt g e).1; have := Oi e2; omega)) (set_grown _ W.heap.size 11 (.slice ab nb cb)) (fun g e e2 => by have := (HNo.out.lt g e).1; have := Oi e2; omega)) (set_grown _ W.heap.size 12 (.slice a5 n5 c5)) (fun g e e2 => by have := (HNo.out.lt g e).1; have := Oi e2; omega))
    rw [← hq] at HRn
    clear HNo
    have HNo := HRn
    clear HRn
    clear HBq q5 z5 q6 z6 q7 z7 q8 z8 q9 z9 q10 z10 q11 z11 q12 z12
    have HBq := HBn
    clear HBn
    rw [← hq]
    clear hq
    have HPv := Hd (show altD (lastOf 1 T) (exprD (lastOf 1 T) k) s = ((0, y.1.t, false, 0, ns, x), s3) from HPu.out)
    obtain ⟨q0, q1, q2, q3, q4, q5, q6, q7, q8, q9, q10, q11, q12⟩ := (HBq.out).q13
    have hBp := boxw_grown HX.out.2 H10.out.2 (by omega)
    obtain ⟨d0, d1, d2, d3, d4, d5, d6, d7, d8, d9, d10, d11, d12⟩ := (hBp).q13
    obtain ⟨z0, z1, z2, z3, z4, z5, z6, z7, z8, z9, z10, z11, z12⟩ := (hBp).z13
    have HBp := Hd hBp
    clear hBp
    go_wp2_with fail
    have hF := ((HBp.out).b13v (.int .i64 0) (.string (tx y.1.t)) (.bool false) (.int .u64 0) (.slice aN ns.length cN) (.int .i64 k0) (.string nm) (.bool f) (.int .u64 u) (.slice ap np cp) (.slice ak nk ck) (.slice ab nb cb) (.slice a5 n5 c5))
    have v0 := hF.1 0 _ rfl
    have v1 := hF.1 1 _ rfl
    have v2 := hF.1 2 _ rfl
    have v3 := hF.1 3 _ rfl
    have v4 := hF.1 4 _ rfl
    have v5 := hF.1 5 _ rfl
    have v6 := hF.1 6 _ rfl
    have v7 := hF.1 7 _ rfl
    have v8 := hF.1 8 _ rfl
    have v9 := hF.1 9 _ rfl
    have v10 := hF.1 10 _ rfl
    have v11 := hF.1 11 _ rfl
    have v12 := hF.1 12 _ rfl
    refine bodyPost_ret (v := .agg #[.int .i64 0, .string (tx y.1.t), .bool false, .int .u64 0, .slice aN ns.length cN, .int .i64 k0, .string nm, .bool f, .int .u64 u, .slice ap np cp, .slice ak nk ck, .slice ab nb cb, .slice a5 n5 c5]) (by simp [results, Try.results71, go_sem, v0, v1, v2, v3, v4, v5, v6, v7, v8, v9, v10, v11, v12]) rfl ?_
    rw [HPv.out]
    refine ⟨⟨.slice aN ns.length cN, _, _, _, _, _, _, _, _, rfl, (RowAt.own HNo.out).kp (lo' := w.heap.size) ((Kp.s13 (Or.inl (by omega)))) (by omega), HAx.out.kp (lo' := w.heap.size) ((HK10.out _ _ (by omega)).trans ((Kp.s13 (Or.inl (by omega))))) (by omega)⟩, (((((((((((((H10.out.1).over hlt _).over hlt _).over hlt _).over hlt _).over hlt _).over hlt _).over hlt _).over hlt _).over hlt _).over hlt _).over hlt _).over hlt _).over hlt _, (grown_new (grown_new (grown_new (grown_new (grown_new (grown_new (grown_new (grown_new (grown_new (grown_new (grown_new (grown_new (grown_new (Gt (grown_of (b := b) HX.out.1) H10.out.2) Nr _) Nr _) Nr _) Nr _) Nr _) Nr _) Nr _) Nr _) Nr _) Nr _) Nr _) Nr _) Nr _)⟩
  have HN2 := Hd hk
  have k2 : (kindL s.r == 2) = false := by simp [hk]
  clear hk
  by_cases hk : kindL s.r = 3
  · have kk : (kindL s.r == 3) = true := by simp [hk]
    have HPu := Hd (show altD (lastOf 1 T) (exprD (lastOf 1 T) k) s = _ from (if_neg HN2.out).trans (if_pos hk))
    clear hk
    have q0 : w2.cell? ⟨W.heap.size, 0, none⟩ = some _ := HBq.out.1 0 _ rfl
    have z0 : w2.frozen? ⟨W.heap.size, 0, none⟩ = false := HBq.out.2 0
    go_wp2_with fail
    have HBn := Hd (show BoxW (w2.setCell ⟨W.heap.size, 0, none⟩ (.int .i64 1)) W.heap.size [.int .i64 1, .string ⟨#[]⟩, .bool false, .int .u64 0, .slice none 0 0, .int .i64 0, .string ⟨#[]⟩, .bool false, .int .u64 0, .slice none 0 0, .slice none 0 0, .slice none 0 0, .slice none 0 0] from (HBq.out).set 0 (show 0 < 13 by decide) (.int .i64 1))
    have H3 := Hd (Ai (show PAt (w2.setCell ⟨W.heap.size, 0, none⟩ (.int .i64 1)) b T (s) from (H2.out.1).over (show b < W.heap.size by omega) _) (show W.grownBy (w2.setCell ⟨W.heap.size, 0, none⟩ (.int .i64 1)) (some b) from (grown_new H2.out.2 (show W.heap.size ≤ W.heap.size by omega) _)))
    have HK3 := Hd (show ∀ lo hi, W.heap.size < lo → Kp lo hi w2 (w2.setCell ⟨W.heap.size, 0, none⟩ (.int .i64 1)) from fun lo hi h => (Kp.set _ _ _ _ (Or.inl h)))
    have hsz3 : w2.heap.size ≤ (w2.setCell ⟨W.heap.size, 0, none⟩ (.int .i64 1)).heap.size := by simp
    clear HBq q0 z0
    have HBq := HBn
    clear HBn
    generalize (w2.setCell ⟨W.heap.size, 0, none⟩ (.int .i64 1)) = w3 at *
    refine (dtok_any b T (s) 3 (by decide) w3 H3.out.1).mono ?_
    rintro e w4 ⟨hv, hP, hg⟩
    have HG4 := Hd hg
    have hsz4 : w3.heap.size ≤ w4.heap.size := hg.size
    have H4 := Hd (Ai hP (Gt H3.out.2 hg))
    clear hP hg
    unfold TokV at hv
    subst hv
    generalize tokD (lastOf 1 T) 3 (s) = Q at *
    obtain ⟨y, s1⟩ := Q
    have hf1 := fun W => tok_field1 y.1.k (tx y.1.t) y.1.f y.1.x y.2 W
    have hf2 := fun W => tok_field2 y.1.k (tx y.1.t) y.1.f y.1.x y.2 W
    replace HBq := Hd (boxw_grown HBq.out HG4.out (by omega))
    have q2 : w4.cell? ⟨W.heap.size, 2, none⟩ = some _ := HBq.out.1 2 _ rfl
    have z2 : w4.frozen? ⟨W.heap.size, 2, none⟩ = false := HBq.out.2 2
    have q3 : w4.cell? ⟨W.heap.size, 3, none⟩ = some _ := HBq.out.1 3 _ rfl
    have z3 : w4.frozen? ⟨W.heap.size, 3, none⟩ = false := HBq.out.2 3
    go_wp2_with fail
    have HBn := Hd (show BoxW ((w4.setCell ⟨W.heap.size, 2, none⟩ (.bool y.1.f)).setCell ⟨W.heap.size, 3, none⟩ (.int .u64 y.1.x)) W.heap.size [.int .i64 1, .string ⟨#[]⟩, .bool y.1.f, .int .u64 y.1.x, .slice none 0 0, .int .i64 0, .string ⟨#[]⟩, .bool false, .int .u64 0, .slice none 0 0, .slice none 0 0, .slice none 0 0, .slice none 0 0] from ((HBq.out)).b13_2_2)
    have H5 := Hd (Ai (show PAt ((w4.setCell ⟨W.heap.size, 2, none⟩ (.bool y.1.f)).setCell ⟨W.heap.size, 3, none⟩ (.int .u64 y.1.x)) b T (s1) from (H4.out.1).o2 (show b < W.heap.size by omega)) (show W.grownBy ((w4.setCell ⟨W.heap.size, 2, none⟩ (.bool y.1.f)).setCell ⟨W.heap.size, 3, none⟩ (.int .u64 y.1.x)) (some b) from (gn2 H4.out.2 (show W.heap.size ≤ W.heap.size by omega))))
    have HK5 := Hd (show ∀ lo hi, W.heap.size < lo → Kp lo hi w4 ((w4.setCell ⟨W.heap.size, 2, none⟩ (.bool y.1.f)).setCell ⟨W.heap.size, 3, none⟩ (.int .u64 y.1.x)) from fun lo hi h => ((Kp.s2 (Or.inl h))))
    have hsz5 : w4.heap.size ≤ ((w4.setCell ⟨W.heap.size, 2, none⟩ (.bool y.1.f)).setCell ⟨W.heap.size, 3, none⟩ (.int .u64 y.1.x)).heap.size := by simp
    clear HBq q2 z2 q3 z3
    have HBq := HBn
    clear HBn
    generalize ((w4.setCell ⟨W.heap.size, 2, none⟩ (.bool y.1.f)).setCell ⟨W.heap.size, 3, none⟩ (.int .u64 y.1.x)) = w5 at *
    clear hf1 hf2
    refine (dneed_any b T (s1) [45, 62] w5 H5.out.1).mono ?_
    rintro e w6 ⟨rfl, hP, hg⟩
    have HG6 := Hd hg
    have hsz6 : w5.heap.size ≤ w6.heap.size := hg.size
    have H6 := Hd (Ai hP (Gt H5.out.2 hg))
    clear hP hg
    replace HBq := Hd (boxw_grown HBq.out HG6.out (by omega))
    go_wp2_with fail
    refine (show Calls Try.prog 57 #[.pointer (some ⟨b, 0, none⟩), .int .i64 (201 - (k : Int))] w6 _ from hEx (needD (lastOf 1 T) [45, 62] (s1)) w6 H6.out.1).mono ?_
    rintro e w7 ⟨⟨k0, nm, f, u, vp, vk, vb, va, rfl, hat⟩, hP, hg⟩
    have HG7 := Hd hg
    have hsz7 : w6.heap.size ≤ w7.heap.size := hg.size
    have H7 := Hd (Ai hP (Gt H6.out.2 hg))
    clear hP hg
    obtain ⟨⟨ap, np, cp, rfl⟩, ⟨ak, nk, ck, rfl⟩, ⟨ab, nb, cb, rfl⟩, ⟨a5, n5, c5, rfl⟩⟩ := hat.slices
    have HAx := Hd hat
    clear hat
    generalize (exprD (lastOf 1 T) k) (needD (lastOf 1 T) [45, 62] (s1)) = Q at *
    obtain ⟨x, s3⟩ := Q
    replace HBq := Hd (boxw_grown HBq.out HG7.out (by omega))
    have q5 : w7.cell? ⟨W.heap.size, 5, none⟩ = some _ := HBq.out.1 5 _ rfl
    have z5 : w7.frozen? ⟨W.heap.size, 5, none⟩ = false := HBq.out.2 5
    have q6 : w7.cell? ⟨W.heap.size, 6, none⟩ = some _ := HBq.out.1 6 _ rfl
    have z6 : w7.frozen? ⟨W.heap.size, 6, none⟩ = false := HBq.out.2 6
    have q7 : w7.cell? ⟨W.heap.size, 7, none⟩ = some _ := HBq.out.1 7 _ rfl
    have z7 : w7.frozen? ⟨W.heap.size, 7, none⟩ = false := HBq.out.2 7
    have q8 : w7.cell? ⟨W.heap.size, 8, none⟩ = some _ := HBq.out.1 8 _ rfl
    have z8 : w7.frozen? ⟨W.heap.size, 8, none⟩ = false := HBq.out.2 8
    have q9 : w7.cell? ⟨W.heap.size, 9, none⟩ = some _ := HBq.out.1 9 _ rfl
    have z9 : w7.frozen? ⟨W.heap.size, 9, none⟩ = false := HBq.out.2 9
    have q10 : w7.cell? ⟨W.heap.size, 10, none⟩ = some _ := HBq.out.1 10 _ rfl
    have z10 : w7.frozen? ⟨W.heap.size, 10, none⟩ = false := HBq.out.2 10
    have q11 : w7.cell? ⟨W.heap.size, 11, none⟩ = some _ := HBq.out.1 11 _ rfl
    have z11 : w7.frozen? ⟨W.heap.size, 11, none⟩ = false := HBq.out.2 11
    have q12 : w7.cell? ⟨W.heap.size, 12, none⟩ = some _ := HBq.out.1 12 _ rfl
    have z12 : w7.frozen? ⟨W.heap.size, 12, none⟩ = false := HBq.out.2 12
    go_upto_region 14 with fail
    obtain ⟨w8, hq⟩ : ∃ q, q = ((((((((w7.setCell ⟨W.heap.size, 5, none⟩ (.int .i64 k0)).setCell ⟨W.heap.size, 6, none⟩ (.string nm)).setCell ⟨W.heap.size, 7, none⟩ (.bool f)).setCell ⟨W.heap.size, 8, none⟩ (.int .u64 u)).setCell ⟨W.heap.size, 9, none⟩ (.slice ap np cp)).setCell ⟨W.heap.size, 10, none⟩ (.slice ak nk ck)).setCell ⟨W.heap.size, 11, none⟩ (.slice ab nb cb)).setCell ⟨W.heap.size, 12, none⟩ (.slice a5 n5 c5)) := ⟨_, rfl⟩
    have HBn := Hd (show BoxW w8 W.heap.size [.int .i64 1, .string ⟨#[]⟩, .bool y.1.f, .int .u64 y.1.x, .slice none 0 0, .int .i64 k0, .string nm, .bool f, .int .u64 u, .slice ap np cp, .slice ak nk ck, .slice ab nb cb, .slice a5 n5 c5] by subst hq; exact ((HBq.out)).b13_5_8)
    have H8 := Hd (Ai (show PAt w8 b T (s3) by subst hq; exact (H7.out.1).o8 (show b < W.heap.size by omega)) (show W.grownBy w8 (some b) by subst hq; exact (gn8 H7.out.2 (show W.heap.size ≤ W.heap.size by omega))))
    have HK8 := Hd (show ∀ lo hi, W.heap.size < lo → Kp lo hi w7 w8 by subst hq; exact fun lo hi h => ((Kp.s8 (Or.inl h))))
    have hsz8 : w7.heap.size ≤ w8.heap.size := by subst hq; simp
    clear HBq q5 z5 q6 z6 q7 z7 q8 z8 q9 z9 q10 z10 q11 z11 q12 z12
    have HBq := HBn
    clear HBn
    rw [← hq]
    clear hq
    have HPv := Hd (show altD (lastOf 1 T) (exprD (lastOf 1 T) k) s = ((1, [], y.1.f, y.1.x, [], x), s3) from HPu.out)
    obtain ⟨q0, q1, q2, q3, q4, q5, q6, q7, q8, q9, q10, q11, q12⟩ := (HBq.out).q13
    have hBp := boxw_grown HX.out.2 H8.out.2 (by omega)
    obtain ⟨d0, d1, d2, d3, d4, d5, d6, d7, d8, d9, d10, d11, d12⟩ := (hBp).q13
    obtain ⟨z0, z1, z2, z3, z4, z5, z6, z7, z8, z9, z10, z11, z12⟩ := (hBp).z13
    have HBp := Hd hBp
    clear hBp
    go_wp2_with fail
    have hF := ((HBp.out).b13v (.int .i64 1) (.string ⟨#[]⟩) (.bool y.1.f) (.int .u64 y.1.x) (.slice none 0 0) (.int .i64 k0) (.string nm) (.bool f) (.int .u64 u) (.slice ap np cp) (.slice ak nk ck) (.slice ab nb cb) (.slice a5 n5 c5))
    have v0 := hF.1 0 _ rfl
    have v1 := hF.1 1 _ rfl
    have v2 := hF.1 2 _ rfl
    have v3 := hF.1 3 _ rfl
    have v4 := hF.1 4 _ rfl
    have v5 := hF.1 5 _ rfl
    have v6 := hF.1 6 _ rfl
    have v7 := hF.1 7 _ rfl
    have v8 := hF.1 8 _ rfl
    have v9 := hF.1 9 _ rfl
    have v10 := hF.1 10 _ rfl
    have v11 := hF.1 11 _ rfl
    have v12 := hF.1 12 _ rfl
    refine bodyPost_ret (v := .agg #[.int .i64 1, .string ⟨#[]⟩, .bool y.1.f, .int .u64 y.1.x, .slice none 0 0, .int .i64 k0, .string nm, .bool f, .int .u64 u, .slice ap np cp, .slice ak nk ck, .slice ab nb cb, .slice a5 n5 c5]) (by simp [results, Try.results71, go_sem, v0, v1, v2, v3, v4, v5, v6, v7, v8, v9, v10, v11, v12]) rfl ?_
    rw [HPv.out]
    refine ⟨⟨.slice none 0 0, _, _, _, _, _, _, _, _, rfl, RowAt.nil _ _ _ _, HAx.out.kp (lo' := w.heap.size) ((HK8.out _ _ (by omega)).trans ((Kp.s13 (Or.inl (by omega))))) (by omega)⟩, (((((((((((((H8.out.1).over hlt _).over hlt _).over hlt _).over hlt _).over hlt _).over hlt _).over hlt _).over hlt _).over hlt _).over hlt _).over hlt _).over hlt _).over hlt _, (grown_new (grown_new (grown_new (grown_new (grown_new (grown_new (grown_new (grown_new (grown_new (grown_new (grown_new (grown_new (grown_new (Gt (grown_of (b := b) HX.out.1) H8.out.2) Nr _) Nr _) Nr _) Nr _) Nr _) Nr _) Nr _) Nr _) Nr _) Nr _) Nr _) Nr _) Nr _)⟩
  · have k3 : (kindL s.r == 3) = false := by simp [hk]
    have HPu := Hd (show altD (lastOf 1 T) (exprD (lastOf 1 T) k) s = _ from (if_neg HN2.out).trans (if_neg hk))
    clear hk
    have q0 : w2.cell? ⟨W.heap.size, 0, none⟩ = some _ := HBq.out.1 0 _ rfl
    have z0 : w2.frozen? ⟨W.heap.size, 0, none⟩ = false := HBq.out.2 0
    go_wp2_with fail
    have HBn := Hd (show BoxW (w2.setCell ⟨W.heap.size, 0, none⟩ (.int .i64 2)) W.heap.size [.int .i64 2, .string ⟨#[]⟩, .bool false, .int .u64 0, .slice none 0 0, .int .i64 0, .string ⟨#[]⟩, .bool false, .int .u64 0, .slice none 0 0, .slice none 0 0, .slice none 0 0, .slice none 0 0] from (HBq.out).set 0 (show 0 < 13 by decide) (.int .i64 2))
    have H3 := Hd (Ai (show PAt (w2.setCell ⟨W.heap.size, 0, none⟩ (.int .i64 2)) b T (s) from (H2.out.1).over (show b < W.heap.size by omega) _) (show W.grownBy (w2.setCell ⟨W.heap.size, 0, none⟩ (.int .i64 2)) (some b) from (grown_new H2.out.2 (show W.heap.size ≤ W.heap.size by omega) _)))
    have HK3 := Hd (show ∀ lo hi, W.heap.size < lo → Kp lo hi w2 (w2.setCell ⟨W.heap.size, 0, none⟩ (.int .i64 2)) from fun lo hi h => (Kp.set _ _ _ _ (Or.inl h)))
    have hsz3 : w2.heap.size ≤ (w2.setCell ⟨W.heap.size, 0, none⟩ (.int .i64 2)).heap.size := by simp
    clear HBq q0 z0
    have HBq := HBn
    clear HBn
    generalize (w2.setCell ⟨W.heap.size, 0, none⟩ (.int .i64 2)) = w3 at *
    refine (dtok_any b T (s) 1 (by decide) w3 H3.out.1).mono ?_
    rintro e w4 ⟨hv, hP, hg⟩
    have HG4 := Hd hg
    have hsz4 : w3.heap.size ≤ w4.heap.size := hg.size
    have H4 := Hd (Ai hP (Gt H3.out.2 hg))
    clear hP hg
    unfold TokV at hv
    subst hv
    generalize tokD (lastOf 1 T) 1 (s) = Q at *
    obtain ⟨y, s1⟩ := Q
    have hf1 := fun W => tok_field1 y.1.k (tx y.1.t) y.1.f y.1.x y.2 W
    have hf2 := fun W => tok_field2 y.1.k (tx y.1.t) y.1.f y.1.x y.2 W
    replace HBq := Hd (boxw_grown HBq.out HG4.out (by omega))
    have q1 : w4.cell? ⟨W.heap.size, 1, none⟩ = some _ := HBq.out.1 1 _ rfl
    have z1 : w4.frozen? ⟨W.heap.size, 1, none⟩ = false := HBq.out.2 1
    go_wp2_with fail
    have HBn := Hd (show BoxW (w4.setCell ⟨W.heap.size, 1, none⟩ (.string (tx y.1.t))) W.heap.size [.int .i64 2, .string (tx y.1.t), .bool false, .int .u64 0, .slice none 0 0, .int .i64 0, .string ⟨#[]⟩, .bool false, .int .u64 0, .slice none 0 0, .slice none 0 0, .slice none 0 0, .slice none 0 0] from (HBq.out).set 1 (show 1 < 13 by decide) (.string (tx y.1.t)))
    have H5 := Hd (Ai (show PAt (w4.setCell ⟨W.heap.size, 1, none⟩ (.string (tx y.1.t))) b T (s1) from (H4.out.1).over (show b < W.heap.size by omega) _) (show W.grownBy (w4.setCell ⟨W.heap.size, 1, none⟩ (.string (tx y.1.t))) (some b) from (grown_new H4.out.2 (show W.heap.size ≤ W.heap.size by omega) _)))
    have HK5 := Hd (show ∀ lo hi, W.heap.size < lo → Kp lo hi w4 (w4.setCell ⟨W.heap.size, 1, none⟩ (.string (tx y.1.t))) from fun lo hi h => (Kp.set _ _ _ _ (Or.inl h)))
    have hsz5 : w4.heap.size ≤ (w4.setCell ⟨W.heap.size, 1, none⟩ (.string (tx y.1.t))).heap.size := by simp
    clear HBq q1 z1
    have HBq := HBn
    clear HBn
    generalize (w4.setCell ⟨W.heap.size, 1, none⟩ (.string (tx y.1.t))) = w5 at *
    clear hf1 hf2
    refine (dneed_any b T (s1) [45, 62] w5 H5.out.1).mono ?_
    rintro e w6 ⟨rfl, hP, hg⟩
    have HG6 := Hd hg
    have hsz6 : w5.heap.size ≤ w6.heap.size := hg.size
    have H6 := Hd (Ai hP (Gt H5.out.2 hg))
    clear hP hg
    replace HBq := Hd (boxw_grown HBq.out HG6.out (by omega))
    go_wp2_with fail
    refine (show Calls Try.prog 57 #[.pointer (some ⟨b, 0, none⟩), .int .i64 (201 - (k : Int))] w6 _ from hEx (needD (lastOf 1 T) [45, 62] (s1)) w6 H6.out.1).mono ?_
    rintro e w7 ⟨⟨k0, nm, f, u, vp, vk, vb, va, rfl, hat⟩, hP, hg⟩
    have HG7 := Hd hg
    have hsz7 : w6.heap.size ≤ w7.heap.size := hg.size
    have H7 := Hd (Ai hP (Gt H6.out.2 hg))
    clear hP hg
    obtain ⟨⟨ap, np, cp, rfl⟩, ⟨ak, nk, ck, rfl⟩, ⟨ab, nb, cb, rfl⟩, ⟨a5, n5, c5, rfl⟩⟩ := hat.slices
    have HAx := Hd hat
    clear hat
    generalize (exprD (lastOf 1 T) k) (needD (lastOf 1 T) [45, 62] (s1)) = Q at *
    obtain ⟨x, s3⟩ := Q
    replace HBq := Hd (boxw_grown HBq.out HG7.out (by omega))
    have q5 : w7.cell? ⟨W.heap.size, 5, none⟩ = some _ := HBq.out.1 5 _ rfl
    have z5 : w7.frozen? ⟨W.heap.size, 5, none⟩ = false := HBq.out.2 5
    have q6 : w7.cell? ⟨W.heap.size, 6, none⟩ = some _ := HBq.out.1 6 _ rfl
    have z6 : w7.frozen? ⟨W.heap.size, 6, none⟩ = false := HBq.out.2 6
    have q7 : w7.cell? ⟨W.heap.size, 7, none⟩ = some _ := HBq.out.1 7 _ rfl
    have z7 : w7.frozen? ⟨W.heap.size, 7, none⟩ = false := HBq.out.2 7
    have q8 : w7.cell? ⟨W.heap.size, 8, none⟩ = some _ := HBq.out.1 8 _ rfl
    have z8 : w7.frozen? ⟨W.heap.size, 8, none⟩ = false := HBq.out.2 8
    have q9 : w7.cell? ⟨W.heap.size, 9, none⟩ = some _ := HBq.out.1 9 _ rfl
    have z9 : w7.frozen? ⟨W.heap.size, 9, none⟩ = false := HBq.out.2 9
    have q10 : w7.cell? ⟨W.heap.size, 10, none⟩ = some _ := HBq.out.1 10 _ rfl
    have z10 : w7.frozen? ⟨W.heap.size, 10, none⟩ = false := HBq.out.2 10
    have q11 : w7.cell? ⟨W.heap.size, 11, none⟩ = some _ := HBq.out.1 11 _ rfl
    have z11 : w7.frozen? ⟨W.heap.size, 11, none⟩ = false := HBq.out.2 11
    have q12 : w7.cell? ⟨W.heap.size, 12, none⟩ = some _ := HBq.out.1 12 _ rfl
    have z12 : w7.frozen? ⟨W.heap.size, 12, none⟩ = false := HBq.out.2 12
    go_upto_region 14 with fail
    obtain ⟨w8, hq⟩ : ∃ q, q = ((((((((w7.setCell ⟨W.heap.size, 5, none⟩ (.int .i64 k0)).setCell ⟨W.heap.size, 6, none⟩ (.string nm)).setCell ⟨W.heap.size, 7, none⟩ (.bool f)).setCell ⟨W.heap.size, 8, none⟩ (.int .u64 u)).setCell ⟨W.heap.size, 9, none⟩ (.slice ap np cp)).setCell ⟨W.heap.size, 10, none⟩ (.slice ak nk ck)).setCell ⟨W.heap.size, 11, none⟩ (.slice ab nb cb)).setCell ⟨W.heap.size, 12, none⟩ (.slice a5 n5 c5)) := ⟨_, rfl⟩
    have HBn := Hd (show BoxW w8 W.heap.size [.int .i64 2, .string (tx y.1.t), .bool false, .int .u64 0, .slice none 0 0, .int .i64 k0, .string nm, .bool f, .int .u64 u, .slice ap np cp, .slice ak nk ck, .slice ab nb cb, .slice a5 n5 c5] by subst hq; exact ((HBq.out)).b13_5_8)
    have H8 := Hd (Ai (show PAt w8 b T (s3) by subst hq; exact (H7.out.1).o8 (show b < W.heap.size by omega)) (show W.grownBy w8 (some b) by subst hq; exact (gn8 H7.out.2 (show W.heap.size ≤ W.heap.size by omega))))
    have HK8 := Hd (show ∀ lo hi, W.heap.size < lo → Kp lo hi w7 w8 by subst hq; exact fun lo hi h => ((Kp.s8 (Or.inl h))))
    have hsz8 : w7.heap.size ≤ w8.heap.size := by subst hq; simp
    clear HBq q5 z5 q6 z6 q7 z7 q8 z8 q9 z9 q10 z10 q11 z11 q12 z12
    have HBq := HBn
    clear HBn
    rw [← hq]
    clear hq
    have HPv := Hd (show altD (lastOf 1 T) (exprD (lastOf 1 T) k) s = ((2, y.1.t, false, 0, [], x), s3) from HPu.out)
    obtain ⟨q0, q1, q2, q3, q4, q5, q6, q7, q8, q9, q10, q11, q12⟩ := (HBq.out).q13
    have hBp := boxw_grown HX.out.2 H8.out.2 (by omega)
    obtain ⟨d0, d1, d2, d3, d4, d5, d6, d7, d8, d9, d10, d11, d12⟩ := (hBp).q13
    obtain ⟨z0, z1, z2, z3, z4, z5, z6, z7, z8, z9, z10, z11, z12⟩ := (hBp).z13
    have HBp := Hd hBp
    clear hBp
    go_wp2_with fail
    have hF := ((HBp.out).b13v (.int .i64 2) (.string (tx y.1.t)) (.bool false) (.int .u64 0) (.slice none 0 0) (.int .i64 k0) (.string nm) (.bool f) (.int .u64 u) (.slice ap np cp) (.slice ak nk ck) (.slice ab nb cb) (.slice a5 n5 c5))
    have v0 := hF.1 0 _ rfl
    have v1 := hF.1 1 _ rfl
    have v2 := hF.1 2 _ rfl
    have v3 := hF.1 3 _ rfl
    have v4 := hF.1 4 _ rfl
    have v5 := hF.1 5 _ rfl
    have v6 := hF.1 6 _ rfl
    have v7 := hF.1 7 _ rfl
    have v8 := hF.1 8 _ rfl
    have v9 := hF.1 9 _ rfl
    have v10 := hF.1 10 _ rfl
    have v11 := hF.1 11 _ rfl
    have v12 := hF.1 12 _ rfl
    refine bodyPost_ret (v := .agg #[.int .i64 2, .string (tx y.1.t), .bool false, .int .u64 0, .slice none 0 0, .int .i64 k0, .string nm, .bool f, .int .u64 u, .slice ap np cp, .slice ak nk ck, .slice ab nb cb, .slice a5 n5 c5]) (by simp [results, Try.results71, go_sem, v0, v1, v2, v3, v4, v5, v6, v7, v8, v9, v10, v11, v12]) rfl ?_
    rw [HPv.out]
    refine ⟨⟨.slice none 0 0, _, _, _, _, _, _, _, _, rfl, RowAt.nil _ _ _ _, HAx.out.kp (lo' := w.heap.size) ((HK8.out _ _ (by omega)).trans ((Kp.s13 (Or.inl (by omega))))) (by omega)⟩, (((((((((((((H8.out.1).over hlt _).over hlt _).over hlt _).over hlt _).over hlt _).over hlt _).over hlt _).over hlt _).over hlt _).over hlt _).over hlt _).over hlt _).over hlt _, (grown_new (grown_new (grown_new (grown_new (grown_new (grown_new (grown_new (grown_new (grown_new (grown_new (grown_new (grown_new (grown_new (Gt (grown_of (b := b) HX.out.1) H8.out.2) Nr _) Nr _) Nr _) Nr _) Nr _) Nr _) Nr _) Nr _) Nr _) Nr _) Nr _) Nr _) Nr _)⟩
end Go.Proofs.Ytdjcdecbmeickaa
