import Derived.Test.YthehgcmhcioffaaGreatDoorMg4
import Derived.Test.YthehgcmhcioffaaGreatDoorMg11
import Derived.Test.YthehgcmhcioffaaGreatDoorMg12
namespace Go.Proofs.YthehgcmhcioffaaGreatDoor
set_option maxHeartbeats 64000000
set_option maxRecDepth 100000
open Go.RowKit Go.Lib
theorem ExAt.cells8 {W : World} {K : Nat → Prop} {x : Ex} {cs : List Value} (h : ExAt W K x cs) : ∃ k n f u ap np cp ak nk ck ab nb cb a5 n5 c5, cs = [.int .i64 k, .string n, .bool f, .int .u64 u, .slice ap np cp, .slice ak nk ck, .slice ab nb cb, .slice a5 n5 c5] := by
  cases h with
  | mk k n f x ps ks bs al vp vk vb va xk xb xa hp hk hb ha tk tb ta =>
    obtain ⟨_, _, _, rfl⟩ := hp.slice
    obtain ⟨_, _, _, rfl⟩ := hk.slice
    obtain ⟨_, _, _, rfl⟩ := hb.slice
    obtain ⟨_, _, _, rfl⟩ := ha.slice
    exact ⟨_, _, _, _, _, _, _, _, _, _, _, _, _, _, _, _, rfl⟩
theorem drow_any (b : Nat) (T : List Tok) (k : Nat) (hEx : ExprDC b T k) (dd : Int) (hd : IntKind.i64.wrap (dd + 1) = 201 - (k : Int)) (s : St) (w : World) (hP : PAt w b T s) : Calls Tryz.prog 129 #[.pointer (some ⟨b, 0, none⟩), .int .i64 dd] w (DSaid b T (ExV w.heap.size) (rowD (lastOf 1 T) (exprD (lastOf 1 T) k) s) w) := by
  have hlt : b < w.heap.size := hP.lt
  have hx := (Below.refl w.heap.size w).alloc Nr (.cells #[.int .i64 0, .string ⟨#[]⟩, .bool false, .int .u64 0, .slice none 0 0, .slice none 0 0, .slice none 0 0, .slice none 0 0] 37)
  have HX := Hd (Ai hx (BoxW.alloc w #[.int .i64 0, .string ⟨#[]⟩, .bool false, .int .u64 0, .slice none 0 0, .slice none 0 0, .slice none 0 0, .slice none 0 0] 37))
  have H0 := Hd (Ai (hP.later hx) (grown_of (b := b) (Below.refl (w.alloc (.cells #[.int .i64 0, .string ⟨#[]⟩, .bool false, .int .u64 0, .slice none 0 0, .slice none 0 0, .slice none 0 0, .slice none 0 0] 37)).heap.size (w.alloc (.cells #[.int .i64 0, .string ⟨#[]⟩, .bool false, .int .u64 0, .slice none 0 0, .slice none 0 0, .slice none 0 0, .slice none 0 0] 37)))))
  have HT0 := Hd hP.n
  clear hx hP
  go_enter Tryz.func129, Tryz.ntmps129
  go_upto_region 1 with fail
  have hsz0 : w.heap.size + 1 ≤ (w.alloc (.cells #[.int .i64 0, .string ⟨#[]⟩, .bool false, .int .u64 0, .slice none 0 0, .slice none 0 0, .slice none 0 0, .slice none 0 0] 37)).heap.size := by simp
  generalize (w.alloc (.cells #[.int .i64 0, .string ⟨#[]⟩, .bool false, .int .u64 0, .slice none 0 0, .slice none 0 0, .slice none 0 0, .slice none 0 0] 37)) = W at *
  have HC := Hd (dkind_any b T s W H0.out.1)
  go_wp2_with fail
  refine HC.out.mono ?_
  rintro e w1 ⟨rfl, hb⟩
  have HG1 := Hd (grown_of (b := b) hb)
  have hsz1 : W.heap.size ≤ w1.heap.size := hb.size
  have H1 := Hd (Ai (H0.out.1.later hb) (Gt H0.out.2 HG1.out))
  clear HC hb
  have HC := Hd (datoms_any b T k hEx dd hd s w1 H1.out.1)
  go_wp2_with fail
  refine HC.out.mono ?_
  rintro e w2 ⟨⟨v, cs, rfl, hown, hex⟩, hP, hg⟩
  have HG2 := Hd hg
  have hsz2 : w1.heap.size ≤ w2.heap.size := hg.size
  have H2 := Hd (Ai hP (Gt H1.out.2 hg))
  clear HC hP hg
  obtain ⟨al, cl, rfl, -⟩ := own_shape hown
  have HR := Hd (Ai hown hex)
  clear hown hex
  have HPu := Hd (show rowD (lastOf 1 T) (exprD (lastOf 1 T) k) s = (rowX (kindL s.r) (atomsD (lastOf 1 T) (exprD (lastOf 1 T) k) (s.r.length + 1) [] s).1, if (atomsD (lastOf 1 T) (exprD (lastOf 1 T) k) (s.r.length + 1) [] s).1 = [] then (atomsD (lastOf 1 T) (exprD (lastOf 1 T) k) (s.r.length + 1) [] s).2.bad (lastOf 1 T) 3 else (atomsD (lastOf 1 T) (exprD (lastOf 1 T) k) (s.r.length + 1) [] s).2) from rfl)
  generalize atomsD (lastOf 1 T) (exprD (lastOf 1 T) k) (s.r.length + 1) [] s = Q at *
  obtain ⟨xs, s2⟩ := Q
  have HP2 : Hid (PAt w2 b T s2) := Hd H2.out.1
  cases xs with
  | nil =>
    have HPv := Hd (show rowD (lastOf 1 T) (exprD (lastOf 1 T) k) s = (blankX, s2.bad (lastOf 1 T) 3) from HPu.out)
    simp only [List.length_nil] at *
    clear HPu
    have HC := Hd (dfault_any b T s2 3 w2 HP2.out)
    go_wp2_with fail
    refine HC.out.mono ?_
    rintro e w3 ⟨rfl, hP, hg⟩
    have HG3 := Hd hg
    have hsz3 : w2.heap.size ≤ w3.heap.size := hg.size
    have H3 := Hd (Ai hP (Gt H2.out.2 hg))
    clear HC hP hg
    have hBp := boxw_grown HX.out.2 H3.out.2 (by omega)
    obtain ⟨d0, d1, d2, d3, d4, d5, d6, d7⟩ := (hBp).q8
    obtain ⟨z0, z1, z2, z3, z4, z5, z6, z7⟩ := (hBp).z8
    have HBp := Hd hBp
    clear hBp
    go_wp2_with fail
    have hF := ((HBp.out).b8v (.int .i64 0) (.string ⟨#[]⟩) (.bool false) (.int .u64 0) (.slice none 0 0) (.slice none 0 0) (.slice none 0 0) (.slice none 0 0))
    have v0 := hF.1 0 _ rfl
    have v1 := hF.1 1 _ rfl
    have v2 := hF.1 2 _ rfl
    have v3 := hF.1 3 _ rfl
    have v4 := hF.1 4 _ rfl
    have v5 := hF.1 5 _ rfl
    have v6 := hF.1 6 _ rfl
    have v7 := hF.1 7 _ rfl
    refine bodyPost_ret (v := .agg #[.int .i64 0, .string ⟨#[]⟩, .bool false, .int .u64 0, .slice none 0 0, .slice none 0 0, .slice none 0 0, .slice none 0 0]) (by simp [results, Tryz.results129, go_sem, v0, v1, v2, v3, v4, v5, v6, v7]) rfl ?_
    rw [HPv.out]
    refine ⟨⟨_, _, _, _, _, _, _, _, rfl, ExAt.leaf _ _ 0 []⟩, ((((((((H3.out.1).over hlt _).over hlt _).over hlt _).over hlt _).over hlt _).over hlt _).over hlt _).over hlt _, (grown_new (grown_new (grown_new (grown_new (grown_new (grown_new (grown_new (grown_new (Gt (grown_of (b := b) HX.out.1) H3.out.2) Nr _) Nr _) Nr _) Nr _) Nr _) Nr _) Nr _) Nr _)⟩
  | cons x xs =>
    obtain ⟨hown, hex⟩ := HR.out
    cases hex with
    | cons _ _ cx cr hx ht =>
    obtain ⟨k0, nm, f, u, ap, np, cp, ak, nk, ck, ab, nb, cb, a5, n5, c5, rfl⟩ := hx.cells8
    have hown' := hown
    obtain ⟨g2, rfl, kk2, ht2⟩ := own_at hown (by simp)
    have HRx := Hd (Ai hx ht)
    have HRo := Hd hown
    have e0 : w2.cell? ⟨g2, 0, none⟩ = some (.int .i64 k0) := ht2 0 _ rfl
    have e1 : w2.cell? ⟨g2, 1, none⟩ = some (.string nm) := ht2 1 _ rfl
    have e2 : w2.cell? ⟨g2, 2, none⟩ = some (.bool f) := ht2 2 _ rfl
    have e3 : w2.cell? ⟨g2, 3, none⟩ = some (.int .u64 u) := ht2 3 _ rfl
    have e4 : w2.cell? ⟨g2, 4, none⟩ = some (.slice ap np cp) := ht2 4 _ rfl
    have e5 : w2.cell? ⟨g2, 5, none⟩ = some (.slice ak nk ck) := ht2 5 _ rfl
    have e6 : w2.cell? ⟨g2, 6, none⟩ = some (.slice ab nb cb) := ht2 6 _ rfl
    have e7 : w2.cell? ⟨g2, 7, none⟩ = some (.slice a5 n5 c5) := ht2 7 _ rfl
    clear ht2 hown hown' hx ht HR
    cases xs with
    | nil =>
      have HPv := Hd (show rowD (lastOf 1 T) (exprD (lastOf 1 T) k) s = (x, s2) from HPu.out)
      clear HPu
      simp only [List.length_cons, List.length_nil, Nat.zero_add] at *
      have hBp := boxw_grown HX.out.2 H2.out.2 (by omega)
      obtain ⟨d0, d1, d2, d3, d4, d5, d6, d7⟩ := (hBp).q8
      obtain ⟨z0, z1, z2, z3, z4, z5, z6, z7⟩ := (hBp).z8
      have HBp := Hd hBp
      clear hBp
      go_wp2_with fail
      have hF := ((HBp.out).b8v (.int .i64 k0) (.string nm) (.bool f) (.int .u64 u) (.slice ap np cp) (.slice ak nk ck) (.slice ab nb cb) (.slice a5 n5 c5))
      have v0 := hF.1 0 _ rfl
      have v1 := hF.1 1 _ rfl
      have v2 := hF.1 2 _ rfl
      have v3 := hF.1 3 _ rfl
      have v4 := hF.1 4 _ rfl
      have v5 := hF.1 5 _ rfl
      have v6 := hF.1 6 _ rfl
      have v7 := hF.1 7 _ rfl
      refine bodyPost_ret (v := .agg #[.int .i64 k0, .string nm, .bool f, .int .u64 u, .slice ap np cp, .slice ak nk ck, .slice ab nb cb, .slice a5 n5 c5]) (by simp [results, Tryz.results129, go_sem, v0, v1, v2, v3, v4, v5, v6, v7]) rfl ?_
      rw [HPv.out]
      refine ⟨⟨_, _, _, _, _, _, _, _, rfl, HRx.out.1.kp (lo' := w.heap.size) (((Kp.s8 (Or.inl (by omega))))) (by omega)⟩, ((((((((HP2.out).over hlt _).over hlt _).over hlt _).over hlt _).over hlt _).over hlt _).over hlt _).over hlt _, (grown_new (grown_new (grown_new (grown_new (grown_new (grown_new (grown_new (grown_new (Gt (grown_of (b := b) HX.out.1) H2.out.2) Nr _) Nr _) Nr _) Nr _) Nr _) Nr _) Nr _) Nr _)⟩
    | cons y xs =>
      have fl0 : (((xs.length + 1 + 1 : Nat) : Int) == 0) = false := by simp; omega
      have fl1 : (((xs.length + 1 + 1 : Nat) : Int) == 1) = false := by simp; omega
      have fl2 : ((xs.length : Int) + 1 + 1 == 0) = false := by simp; omega
      have fl3 : ((xs.length : Int) + 1 + 1 == 1) = false := by simp; omega
      have fl4 : ((xs.length : Int) + 1 == 0) = false := by simp; omega
      have fl5 : (1 : Int) ≤ (xs.length : Int) + 1 + 1 := by omega
      have hcl : xs.length + 1 + 1 ≤ cl := kk2
      by_cases hk : kindL s.r = 2 ∨ kindL s.r = 7
      · skip
        have HPv := Hd (show rowD (lastOf 1 T) (exprD (lastOf 1 T) k) s = (x.withKids (y :: xs), s2) from HPu.out.trans (by rw [if_neg (List.cons_ne_nil _ _)]; show ((if kindL s.r = 2 ∨ kindL s.r = 7 then x.withKids (y :: xs) else .mk 4 [] false 0 [] (x :: y :: xs) [] []), s2) = _; rw [if_pos hk]))
        clear HPu
        have kk : (kindL s.r == 2) = true ∨ (kindL s.r == 2) = false ∧ (kindL s.r == 7) = true := by
          by_cases h : kindL s.r = 2
          · exact Or.inl (by simp [h])
          · exact Or.inr ⟨by simp [h], by simp [hk.resolve_left h]⟩
        simp only [List.length_cons] at *
        clear hk
        rcases kk with kk | ⟨kk, kb⟩
        · skip
          have hy := (Below.refl w2.heap.size w2).alloc Nr (.cells #[.int .i64 k0, .string nm, .bool f, .int .u64 u, .slice ap np cp, .slice (some ⟨g2, 8, none⟩) (xs.length + 1) (cl - 1), .slice ab nb cb, .slice a5 n5 c5] 37)
          have hszA : w2.heap.size ≤ (w2.alloc (.cells #[.int .i64 k0, .string nm, .bool f, .int .u64 u, .slice ap np cp, .slice (some ⟨g2, 8, none⟩) (xs.length + 1) (cl - 1), .slice ab nb cb, .slice a5 n5 c5] 37)).heap.size := hy.size
          have hBp : BoxW (w2.alloc (.cells #[.int .i64 k0, .string nm, .bool f, .int .u64 u, .slice ap np cp, .slice (some ⟨g2, 8, none⟩) (xs.length + 1) (cl - 1), .slice ab nb cb, .slice a5 n5 c5] 37)) w.heap.size [.int .i64 0, .string ⟨#[]⟩, .bool false, .int .u64 0, .slice none 0 0, .slice none 0 0, .slice none 0 0, .slice none 0 0] := boxw_grown HX.out.2 (Gt H2.out.2 (grown_of (b := b) hy)) (by omega)
          have d0 : (w2.alloc (.cells #[.int .i64 k0, .string nm, .bool f, .int .u64 u, .slice ap np cp, .slice (some ⟨g2, 8, none⟩) (xs.length + 1) (cl - 1), .slice ab nb cb, .slice a5 n5 c5] 37)).cell? ⟨w.heap.size, 0, none⟩ = some _ := hBp.1 0 _ rfl
          have d1 : (w2.alloc (.cells #[.int .i64 k0, .string nm, .bool f, .int .u64 u, .slice ap np cp, .slice (some ⟨g2, 8, none⟩) (xs.length + 1) (cl - 1), .slice ab nb cb, .slice a5 n5 c5] 37)).cell? ⟨w.heap.size, 1, none⟩ = some _ := hBp.1 1 _ rfl
          have d2 : (w2.alloc (.cells #[.int .i64 k0, .string nm, .bool f, .int .u64 u, .slice ap np cp, .slice (some ⟨g2, 8, none⟩) (xs.length + 1) (cl - 1), .slice ab nb cb, .slice a5 n5 c5] 37)).cell? ⟨w.heap.size, 2, none⟩ = some _ := hBp.1 2 _ rfl
          have d3 : (w2.alloc (.cells #[.int .i64 k0, .string nm, .bool f, .int .u64 u, .slice ap np cp, .slice (some ⟨g2, 8, none⟩) (xs.length + 1) (cl - 1), .slice ab nb cb, .slice a5 n5 c5] 37)).cell? ⟨w.heap.size, 3, none⟩ = some _ := hBp.1 3 _ rfl
          have d4 : (w2.alloc (.cells #[.int .i64 k0, .string nm, .bool f, .int .u64 u, .slice ap np cp, .slice (some ⟨g2, 8, none⟩) (xs.length + 1) (cl - 1), .slice ab nb cb, .slice a5 n5 c5] 37)).cell? ⟨w.heap.size, 4, none⟩ = some _ := hBp.1 4 _ rfl
          have d5 : (w2.alloc (.cells #[.int .i64 k0, .string nm, .bool f, .int .u64 u, .slice ap np cp, .slice (some ⟨g2, 8, none⟩) (xs.length + 1) (cl - 1), .slice ab nb cb, .slice a5 n5 c5] 37)).cell? ⟨w.heap.size, 5, none⟩ = some _ := hBp.1 5 _ rfl
          have d6 : (w2.alloc (.cells #[.int .i64 k0, .string nm, .bool f, .int .u64 u, .slice ap np cp, .slice (some ⟨g2, 8, none⟩) (xs.length + 1) (cl - 1), .slice ab nb cb, .slice a5 n5 c5] 37)).cell? ⟨w.heap.size, 6, none⟩ = some _ := hBp.1 6 _ rfl
          have d7 : (w2.alloc (.cells #[.int .i64 k0, .string nm, .bool f, .int .u64 u, .slice ap np cp, .slice (some ⟨g2, 8, none⟩) (xs.length + 1) (cl - 1), .slice ab nb cb, .slice a5 n5 c5] 37)).cell? ⟨w.heap.size, 7, none⟩ = some _ := hBp.1 7 _ rfl
          have z0 : (w2.alloc (.cells #[.int .i64 k0, .string nm, .bool f, .int .u64 u, .slice ap np cp, .slice (some ⟨g2, 8, none⟩) (xs.length + 1) (cl - 1), .slice ab nb cb, .slice a5 n5 c5] 37)).frozen? ⟨w.heap.size, 0, none⟩ = false := hBp.2 0
          have z1 : (w2.alloc (.cells #[.int .i64 k0, .string nm, .bool f, .int .u64 u, .slice ap np cp, .slice (some ⟨g2, 8, none⟩) (xs.length + 1) (cl - 1), .slice ab nb cb, .slice a5 n5 c5] 37)).frozen? ⟨w.heap.size, 1, none⟩ = false := hBp.2 1
          have z2 : (w2.alloc (.cells #[.int .i64 k0, .string nm, .bool f, .int .u64 u, .slice ap np cp, .slice (some ⟨g2, 8, none⟩) (xs.length + 1) (cl - 1), .slice ab nb cb, .slice a5 n5 c5] 37)).frozen? ⟨w.heap.size, 2, none⟩ = false := hBp.2 2
          have z3 : (w2.alloc (.cells #[.int .i64 k0, .string nm, .bool f, .int .u64 u, .slice ap np cp, .slice (some ⟨g2, 8, none⟩) (xs.length + 1) (cl - 1), .slice ab nb cb, .slice a5 n5 c5] 37)).frozen? ⟨w.heap.size, 3, none⟩ = false := hBp.2 3
          have z4 : (w2.alloc (.cells #[.int .i64 k0, .string nm, .bool f, .int .u64 u, .slice ap np cp, .slice (some ⟨g2, 8, none⟩) (xs.length + 1) (cl - 1), .slice ab nb cb, .slice a5 n5 c5] 37)).frozen? ⟨w.heap.size, 4, none⟩ = false := hBp.2 4
          have z5 : (w2.alloc (.cells #[.int .i64 k0, .string nm, .bool f, .int .u64 u, .slice ap np cp, .slice (some ⟨g2, 8, none⟩) (xs.length + 1) (cl - 1), .slice ab nb cb, .slice a5 n5 c5] 37)).frozen? ⟨w.heap.size, 5, none⟩ = false := hBp.2 5
          have z6 : (w2.alloc (.cells #[.int .i64 k0, .string nm, .bool f, .int .u64 u, .slice ap np cp, .slice (some ⟨g2, 8, none⟩) (xs.length + 1) (cl - 1), .slice ab nb cb, .slice a5 n5 c5] 37)).frozen? ⟨w.heap.size, 6, none⟩ = false := hBp.2 6
          have z7 : (w2.alloc (.cells #[.int .i64 k0, .string nm, .bool f, .int .u64 u, .slice ap np cp, .slice (some ⟨g2, 8, none⟩) (xs.length + 1) (cl - 1), .slice ab nb cb, .slice a5 n5 c5] 37)).frozen? ⟨w.heap.size, 7, none⟩ = false := hBp.2 7
          have HBp := Hd hBp
          have HY := Hd hy
          clear hBp hy
          have hne : w.heap.size ≠ w2.heap.size := by omega
          clear hne
          go_wp2_with fail
          have hF := ((HBp.out).b8v (.int .i64 k0) (.string nm) (.bool f) (.int .u64 u) (.slice ap np cp) (.slice (some ⟨g2, 8, none⟩) (xs.length + 1) (cl - 1)) (.slice ab nb cb) (.slice a5 n5 c5))
          have v0 := hF.1 0 _ rfl
          have v1 := hF.1 1 _ rfl
          have v2 := hF.1 2 _ rfl
          have v3 := hF.1 3 _ rfl
          have v4 := hF.1 4 _ rfl
          have v5 := hF.1 5 _ rfl
          have v6 := hF.1 6 _ rfl
          have v7 := hF.1 7 _ rfl
          refine bodyPost_ret (v := .agg #[.int .i64 k0, .string nm, .bool f, .int .u64 u, .slice ap np cp, .slice (some ⟨g2, 8, none⟩) (xs.length + 1) (cl - 1), .slice ab nb cb, .slice a5 n5 c5]) (by simp [results, Tryz.results129, go_sem, v0, v1, v2, v3, v4, v5, v6, v7]) rfl ?_
          rw [HPv.out]
          refine ⟨⟨_, _, _, _, _, _, _, _, rfl, (HRx.out.1.kp (lo' := w.heap.size) ((Kp.below HY.out (by omega)).trans ((Kp.s8 (Or.inl (by omega))))) (by omega)).withKids (((RowAt.own HRo.out).tail (n := xs.length + 1) rfl (Or.inr rfl)).kp (lo' := w.heap.size) ((Kp.below HY.out (by omega)).trans ((Kp.s8 (Or.inl (by omega))))) (by omega)) (HRx.out.2.kp (lo' := w.heap.size) ((Kp.below HY.out (by omega)).trans ((Kp.s8 (Or.inl (by omega))))) (by omega))⟩, (((((((((HP2.out.later HY.out)).over hlt _).over hlt _).over hlt _).over hlt _).over hlt _).over hlt _).over hlt _).over hlt _, (grown_new (grown_new (grown_new (grown_new (grown_new (grown_new (grown_new (grown_new (Gt (grown_of (b := b) HX.out.1) (Gt H2.out.2 (grown_of (b := b) HY.out))) Nr _) Nr _) Nr _) Nr _) Nr _) Nr _) Nr _) Nr _)⟩
        · skip
          have hy := (Below.refl w2.heap.size w2).alloc Nr (.cells #[.int .i64 k0, .string nm, .bool f, .int .u64 u, .slice ap np cp, .slice (some ⟨g2, 8, none⟩) (xs.length + 1) (cl - 1), .slice ab nb cb, .slice a5 n5 c5] 37)
          have hszA : w2.heap.size ≤ (w2.alloc (.cells #[.int .i64 k0, .string nm, .bool f, .int .u64 u, .slice ap np cp, .slice (some ⟨g2, 8, none⟩) (xs.length + 1) (cl - 1), .slice ab nb cb, .slice a5 n5 c5] 37)).heap.size := hy.size
          have hBp : BoxW (w2.alloc (.cells #[.int .i64 k0, .string nm, .bool f, .int .u64 u, .slice ap np cp, .slice (some ⟨g2, 8, none⟩) (xs.length + 1) (cl - 1), .slice ab nb cb, .slice a5 n5 c5] 37)) w.heap.size [.int .i64 0, .string ⟨#[]⟩, .bool false, .int .u64 0, .slice none 0 0, .slice none 0 0, .slice none 0 0, .slice none 0 0] := boxw_grown HX.out.2 (Gt H2.out.2 (grown_of (b := b) hy)) (by omega)
          have d0 : (w2.alloc (.cells #[.int .i64 k0, .string nm, .bool f, .int .u64 u, .slice ap np cp, .slice (some ⟨g2, 8, none⟩) (xs.length + 1) (cl - 1), .slice ab nb cb, .slice a5 n5 c5] 37)).cell? ⟨w.heap.size, 0, none⟩ = some _ := hBp.1 0 _ rfl
          have d1 : (w2.alloc (.cells #[.int .i64 k0, .string nm, .bool f, .int .u64 u, .slice ap np cp, .slice (some ⟨g2, 8, none⟩) (xs.length + 1) (cl - 1), .slice ab nb cb, .slice a5 n5 c5] 37)).cell? ⟨w.heap.size, 1, none⟩ = some _ := hBp.1 1 _ rfl
          have d2 : (w2.alloc (.cells #[.int .i64 k0, .string nm, .bool f, .int .u64 u, .slice ap np cp, .slice (some ⟨g2, 8, none⟩) (xs.length + 1) (cl - 1), .slice ab nb cb, .slice a5 n5 c5] 37)).cell? ⟨w.heap.size, 2, none⟩ = some _ := hBp.1 2 _ rfl
          have d3 : (w2.alloc (.cells #[.int .i64 k0, .string nm, .bool f, .int .u64 u, .slice ap np cp, .slice (some ⟨g2, 8, none⟩) (xs.length + 1) (cl - 1), .slice ab nb cb, .slice a5 n5 c5] 37)).cell? ⟨w.heap.size, 3, none⟩ = some _ := hBp.1 3 _ rfl
          have d4 : (w2.alloc (.cells #[.int .i64 k0, .string nm, .bool f, .int .u64 u, .slice ap np cp, .slice (some ⟨g2, 8, none⟩) (xs.length + 1) (cl - 1), .slice ab nb cb, .slice a5 n5 c5] 37)).cell? ⟨w.heap.size, 4, none⟩ = some _ := hBp.1 4 _ rfl
          have d5 : (w2.alloc (.cells #[.int .i64 k0, .string nm, .bool f, .int .u64 u, .slice ap np cp, .slice (some ⟨g2, 8, none⟩) (xs.length + 1) (cl - 1), .slice ab nb cb, .slice a5 n5 c5] 37)).cell? ⟨w.heap.size, 5, none⟩ = some _ := hBp.1 5 _ rfl
          have d6 : (w2.alloc (.cells #[.int .i64 k0, .string nm, .bool f, .int .u64 u, .slice ap np cp, .slice (some ⟨g2, 8, none⟩) (xs.length + 1) (cl - 1), .slice ab nb cb, .slice a5 n5 c5] 37)).cell? ⟨w.heap.size, 6, none⟩ = some _ := hBp.1 6 _ rfl
          have d7 : (w2.alloc (.cells #[.int .i64 k0, .string nm, .bool f, .int .u64 u, .slice ap np cp, .slice (some ⟨g2, 8, none⟩) (xs.length + 1) (cl - 1), .slice ab nb cb, .slice a5 n5 c5] 37)).cell? ⟨w.heap.size, 7, none⟩ = some _ := hBp.1 7 _ rfl
          have z0 : (w2.alloc (.cells #[.int .i64 k0, .string nm, .bool f, .int .u64 u, .slice ap np cp, .slice (some ⟨g2, 8, none⟩) (xs.length + 1) (cl - 1), .slice ab nb cb, .slice a5 n5 c5] 37)).frozen? ⟨w.heap.size, 0, none⟩ = false := hBp.2 0
          have z1 : (w2.alloc (.cells #[.int .i64 k0, .string nm, .bool f, .int .u64 u, .slice ap np cp, .slice (some ⟨g2, 8, none⟩) (xs.length + 1) (cl - 1), .slice ab nb cb, .slice a5 n5 c5] 37)).frozen? ⟨w.heap.size, 1, none⟩ = false := hBp.2 1
          have z2 : (w2.alloc (.cells #[.int .i64 k0, .string nm, .bool f, .int .u64 u, .slice ap np cp, .slice (some ⟨g2, 8, none⟩) (xs.length + 1) (cl - 1), .slice ab nb cb, .slice a5 n5 c5] 37)).frozen? ⟨w.heap.size, 2, none⟩ = false := hBp.2 2
          have z3 : (w2.alloc (.cells #[.int .i64 k0, .string nm, .bool f, .int .u64 u, .slice ap np cp, .slice (some ⟨g2, 8, none⟩) (xs.length + 1) (cl - 1), .slice ab nb cb, .slice a5 n5 c5] 37)).frozen? ⟨w.heap.size, 3, none⟩ = false := hBp.2 3
          have z4 : (w2.alloc (.cells #[.int .i64 k0, .string nm, .bool f, .int .u64 u, .slice ap np cp, .slice (some ⟨g2, 8, none⟩) (xs.length + 1) (cl - 1), .slice ab nb cb, .slice a5 n5 c5] 37)).frozen? ⟨w.heap.size, 4, none⟩ = false := hBp.2 4
          have z5 : (w2.alloc (.cells #[.int .i64 k0, .string nm, .bool f, .int .u64 u, .slice ap np cp, .slice (some ⟨g2, 8, none⟩) (xs.length + 1) (cl - 1), .slice ab nb cb, .slice a5 n5 c5] 37)).frozen? ⟨w.heap.size, 5, none⟩ = false := hBp.2 5
          have z6 : (w2.alloc (.cells #[.int .i64 k0, .string nm, .bool f, .int .u64 u, .slice ap np cp, .slice (some ⟨g2, 8, none⟩) (xs.length + 1) (cl - 1), .slice ab nb cb, .slice a5 n5 c5] 37)).frozen? ⟨w.heap.size, 6, none⟩ = false := hBp.2 6
          have z7 : (w2.alloc (.cells #[.int .i64 k0, .string nm, .bool f, .int .u64 u, .slice ap np cp, .slice (some ⟨g2, 8, none⟩) (xs.length + 1) (cl - 1), .slice ab nb cb, .slice a5 n5 c5] 37)).frozen? ⟨w.heap.size, 7, none⟩ = false := hBp.2 7
          have HBp := Hd hBp
          have HY := Hd hy
          clear hBp hy
          have hne : w.heap.size ≠ w2.heap.size := by omega
          clear hne
          go_wp2_with fail
          have hF := ((HBp.out).b8v (.int .i64 k0) (.string nm) (.bool f) (.int .u64 u) (.slice ap np cp) (.slice (some ⟨g2, 8, none⟩) (xs.length + 1) (cl - 1)) (.slice ab nb cb) (.slice a5 n5 c5))
          have v0 := hF.1 0 _ rfl
          have v1 := hF.1 1 _ rfl
          have v2 := hF.1 2 _ rfl
          have v3 := hF.1 3 _ rfl
          have v4 := hF.1 4 _ rfl
          have v5 := hF.1 5 _ rfl
          have v6 := hF.1 6 _ rfl
          have v7 := hF.1 7 _ rfl
          refine bodyPost_ret (v := .agg #[.int .i64 k0, .string nm, .bool f, .int .u64 u, .slice ap np cp, .slice (some ⟨g2, 8, none⟩) (xs.length + 1) (cl - 1), .slice ab nb cb, .slice a5 n5 c5]) (by simp [results, Tryz.results129, go_sem, v0, v1, v2, v3, v4, v5, v6, v7]) rfl ?_
          rw [HPv.out]
          refine ⟨⟨_, _, _, _, _, _, _, _, rfl, (HRx.out.1.kp (lo' := w.heap.size) ((Kp.below HY.out (by omega)).trans ((Kp.s8 (Or.inl (by omega))))) (by omega)).withKids (((RowAt.own HRo.out).tail (n := xs.length + 1) rfl (Or.inr rfl)).kp (lo' := w.heap.size) ((Kp.below HY.out (by omega)).trans ((Kp.s8 (Or.inl (by omega))))) (by omega)) (HRx.out.2.kp (lo' := w.heap.size) ((Kp.below HY.out (by omega)).trans ((Kp.s8 (Or.inl (by omega))))) (by omega))⟩, (((((((((HP2.out.later HY.out)).over hlt _).over hlt _).over hlt _).over hlt _).over hlt _).over hlt _).over hlt _).over hlt _, (grown_new (grown_new (grown_new (grown_new (grown_new (grown_new (grown_new (grown_new (Gt (grown_of (b := b) HX.out.1) (Gt H2.out.2 (grown_of (b := b) HY.out))) Nr _) Nr _) Nr _) Nr _) Nr _) Nr _) Nr _) Nr _)⟩
      · skip
        have HPv := Hd (show rowD (lastOf 1 T) (exprD (lastOf 1 T) k) s = (.mk 4 [] false 0 [] (x :: y :: xs) [] [], s2) from HPu.out.trans (by rw [if_neg (List.cons_ne_nil _ _)]; show ((if kindL s.r = 2 ∨ kindL s.r = 7 then x.withKids (y :: xs) else .mk 4 [] false 0 [] (x :: y :: xs) [] []), s2) = _; rw [if_neg hk]))
        clear HPu
        have kk2 : (kindL s.r == 2) = false := by simp; exact fun h => hk (Or.inl h)
        have kk7 : (kindL s.r == 7) = false := by simp; exact fun h => hk (Or.inr h)
        simp only [List.length_cons] at *
        clear hk
        have hBp := boxw_grown HX.out.2 H2.out.2 (by omega)
        obtain ⟨d0, d1, d2, d3, d4, d5, d6, d7⟩ := (hBp).q8
        obtain ⟨z0, z1, z2, z3, z4, z5, z6, z7⟩ := (hBp).z8
        have HBp := Hd hBp
        clear hBp
        go_wp2_with fail
        have hF := ((HBp.out).b8v (.int .i64 4) (.string ⟨#[]⟩) (.bool false) (.int .u64 0) (.slice none 0 0) (.slice (some ⟨g2, 0, none⟩) (xs.length + 1 + 1) cl) (.slice none 0 0) (.slice none 0 0))
        have v0 := hF.1 0 _ rfl
        have v1 := hF.1 1 _ rfl
        have v2 := hF.1 2 _ rfl
        have v3 := hF.1 3 _ rfl
        have v4 := hF.1 4 _ rfl
        have v5 := hF.1 5 _ rfl
        have v6 := hF.1 6 _ rfl
        have v7 := hF.1 7 _ rfl
        refine bodyPost_ret (v := .agg #[.int .i64 4, .string ⟨#[]⟩, .bool false, .int .u64 0, .slice none 0 0, .slice (some ⟨g2, 0, none⟩) (xs.length + 1 + 1) cl, .slice none 0 0, .slice none 0 0]) (by simp [results, Tryz.results129, go_sem, v0, v1, v2, v3, v4, v5, v6, v7]) rfl ?_
        rw [HPv.out]
        refine ⟨⟨_, _, _, _, _, _, _, _, rfl, ExAt.kids (xs := x :: y :: xs) 4 [] ((RowAt.own HRo.out).kp (lo' := w.heap.size) ((Kp.s8 (Or.inl (by omega)))) (by omega)) (ExsAt.cons x (y :: xs) _ _ (HRx.out.1.kp (lo' := w.heap.size) ((Kp.s8 (Or.inl (by omega)))) (by omega)) (HRx.out.2.kp (lo' := w.heap.size) ((Kp.s8 (Or.inl (by omega)))) (by omega)))⟩, ((((((((HP2.out).over hlt _).over hlt _).over hlt _).over hlt _).over hlt _).over hlt _).over hlt _).over hlt _, (grown_new (grown_new (grown_new (grown_new (grown_new (grown_new (grown_new (grown_new (Gt (grown_of (b := b) HX.out.1) H2.out.2) Nr _) Nr _) Nr _) Nr _) Nr _) Nr _) Nr _) Nr _)⟩
theorem dbind_any (b : Nat) (T : List Tok) (k : Nat) (hEx : ExprDC b T k) (dd : Int) (hd : IntKind.i64.wrap (dd + 1) = 201 - (k : Int)) (s : St) (w : World) (hP : PAt w b T s) : Calls Tryz.prog 59 #[.pointer (some ⟨b, 0, none⟩), .int .i64 dd] w (DSaid b T (BndV w.heap.size) (bindD (lastOf 1 T) (exprD (lastOf 1 T) k) s) w) := by
  have hlt : b < w.heap.size := hP.lt
  have hx := (Below.refl w.heap.size w).alloc Nr (.cells #[.string ⟨#[]⟩, .slice none 0 0, .int .i64 0, .string ⟨#[]⟩, .bool false, .int .u64 0, .slice none 0 0, .slice none 0 0, .slice none 0 0, .slice none 0 0] 39)
  have HX := Hd (Ai hx (BoxW.alloc w #[.string ⟨#[]⟩, .slice none 0 0, .int .i64 0, .string ⟨#[]⟩, .bool false, .int .u64 0, .slice none 0 0, .slice none 0 0, .slice none 0 0, .slice none 0 0] 39))
  have H0 := Hd (Ai (hP.later hx) (grown_of (b := b) (Below.refl (w.alloc (.cells #[.string ⟨#[]⟩, .slice none 0 0, .int .i64 0, .string ⟨#[]⟩, .bool false, .int .u64 0, .slice none 0 0, .slice none 0 0, .slice none 0 0, .slice none 0 0] 39)).heap.size (w.alloc (.cells #[.string ⟨#[]⟩, .slice none 0 0, .int .i64 0, .string ⟨#[]⟩, .bool false, .int .u64 0, .slice none 0 0, .slice none 0 0, .slice none 0 0, .slice none 0 0] 39)))))
  have HT0 := Hd hP.n
  clear hx hP
  go_enter Tryz.func59, Tryz.ntmps59
  go_upto_region 1 with fail
  have hsz0 : w.heap.size + 1 ≤ (w.alloc (.cells #[.string ⟨#[]⟩, .slice none 0 0, .int .i64 0, .string ⟨#[]⟩, .bool false, .int .u64 0, .slice none 0 0, .slice none 0 0, .slice none 0 0, .slice none 0 0] 39)).heap.size := by simp
  generalize (w.alloc (.cells #[.string ⟨#[]⟩, .slice none 0 0, .int .i64 0, .string ⟨#[]⟩, .bool false, .int .u64 0, .slice none 0 0, .slice none 0 0, .slice none 0 0, .slice none 0 0] 39)) = W at *
  have HPu := Hd (show bindD (lastOf 1 T) (exprD (lastOf 1 T) k) s = (((namesD (lastOf 1 T) true s).1.headD [], (namesD (lastOf 1 T) true s).1.tail, ((exprD (lastOf 1 T) k) (needD (lastOf 1 T) [61] (namesD (lastOf 1 T) true s).2)).1), ((exprD (lastOf 1 T) k) (needD (lastOf 1 T) [61] (namesD (lastOf 1 T) true s).2)).2) from rfl)
  have HC := Hd ((show Calls Tryz.prog 101 #[.pointer (some ⟨b, 0, none⟩), .int .i64 1] W (DSaid b T (NmsV W.heap.size) (namesD (lastOf 1 T) true (s)) W) from dnames_any b T (s) true W H0.out.1))
  go_wp2_with fail
  refine HC.out.mono ?_
  rintro e w1 ⟨⟨v, rfl, hown⟩, hP, hg⟩
  have HG1 := Hd hg
  have hsz1 : W.heap.size ≤ w1.heap.size := hg.size
  have H1 := Hd (Ai hP (Gt H0.out.2 hg))
  clear HC hP hg
  obtain ⟨aN, cN, rfl, -⟩ := own_shape hown
  have HNo := Hd hown
  clear hown
  generalize namesD (lastOf 1 T) true (s) = Q at *
  obtain ⟨ns, s1⟩ := Q
  have HC := Hd (dneed_any b T (s1) [61] w1 H1.out.1)
  go_wp2_with fail
  refine HC.out.mono ?_
  rintro e w2 ⟨rfl, hP, hg⟩
  have HG2 := Hd hg
  have hsz2 : w1.heap.size ≤ w2.heap.size := hg.size
  have H2 := Hd (Ai hP (Gt H1.out.2 hg))
  clear HC hP hg
  have HNn := Hd (own_kept HNo.out HG2.out (fun e => by have := (HNo.out.lt b e).1; omega))
  clear HNo
  have HNo := HNn
  clear HNn
  have HC := Hd (show Calls Tryz.prog 102 #[.pointer (some ⟨b, 0, none⟩), .int .i64 (201 - (k : Int))] w2 _ from hEx (needD (lastOf 1 T) [61] (s1)) w2 H2.out.1)
  go_wp2_with fail
  refine HC.out.mono ?_
  rintro e w3 ⟨⟨k0, nm, f, u, vp, vk, vb, va, rfl, hat⟩, hP, hg⟩
  have HG3 := Hd hg
  have hsz3 : w2.heap.size ≤ w3.heap.size := hg.size
  have H3 := Hd (Ai hP (Gt H2.out.2 hg))
  clear HC hP hg
  obtain ⟨⟨ap, np, cp, rfl⟩, ⟨ak, nk, ck, rfl⟩, ⟨ab, nb, cb, rfl⟩, ⟨a5, n5, c5, rfl⟩⟩ := hat.slices
  have HAx := Hd hat
  clear hat
  generalize (exprD (lastOf 1 T) k) (needD (lastOf 1 T) [61] (s1)) = Q at *
  obtain ⟨x, s3⟩ := Q
  have HNn := Hd (own_kept HNo.out HG3.out (fun e => by have := (HNo.out.lt b e).1; omega))
  clear HNo
  have HNo := HNn
  clear HNn
  cases ns with
  | nil =>
    have HPv := Hd (show bindD (lastOf 1 T) (exprD (lastOf 1 T) k) s = (([], [], x), s3) from HPu.out)
    clear HPu
    simp only [List.length_nil] at *
    have hy := (Below.refl w3.heap.size w3).alloc Nr (.cells #[.string ⟨#[]⟩, .slice none 0 0, .int .i64 k0, .string nm, .bool f, .int .u64 u, .slice ap np cp, .slice ak nk ck, .slice ab nb cb, .slice a5 n5 c5] 39)
    have hszA : w3.heap.size ≤ (w3.alloc (.cells #[.string ⟨#[]⟩, .slice none 0 0, .int .i64 k0, .string nm, .bool f, .int .u64 u, .slice ap np cp, .slice ak nk ck, .slice ab nb cb, .slice a5 n5 c5] 39)).heap.size := hy.size
    have hBp : BoxW (w3.alloc (.cells #[.string ⟨#[]⟩, .slice none 0 0, .int .i64 k0, .string nm, .bool f, .int .u64 u, .slice ap np cp, .slice ak nk ck, .slice ab nb cb, .slice a5 n5 c5] 39)) w.heap.size [.string ⟨#[]⟩, .slice none 0 0, .int .i64 0, .string ⟨#[]⟩, .bool false, .int .u64 0, .slice none 0 0, .slice none 0 0, .slice none 0 0, .slice none 0 0] := boxw_grown HX.out.2 (Gt H3.out.2 (grown_of (b := b) hy)) (by omega)
    have d0 : (w3.alloc (.cells #[.string ⟨#[]⟩, .slice none 0 0, .int .i64 k0, .string nm, .bool f, .int .u64 u, .slice ap np cp, .slice ak nk ck, .slice ab nb cb, .slice a5 n5 c5] 39)).cell? ⟨w.heap.size, 0, none⟩ = some _ := hBp.1 0 _ rfl
    have d1 : (w3.alloc (.cells #[.string ⟨#[]⟩, .slice none 0 0, .int .i64 k0, .string nm, .bool f, .int .u64 u, .slice ap np cp, .slice ak nk ck, .slice ab nb cb, .slice a5 n5 c5] 39)).cell? ⟨w.heap.size, 1, none⟩ = some _ := hBp.1 1 _ rfl
    have d2 : (w3.alloc (.cells #[.string ⟨#[]⟩, .slice none 0 0, .int .i64 k0, .string nm, .bool f, .int .u64 u, .slice ap np cp, .slice ak nk ck, .slice ab nb cb, .slice a5 n5 c5] 39)).cell? ⟨w.heap.size, 2, none⟩ = some _ := hBp.1 2 _ rfl
    have d3 : (w3.alloc (.cells #[.string ⟨#[]⟩, .slice none 0 0, .int .i64 k0, .string nm, .bool f, .int .u64 u, .slice ap np cp, .slice ak nk ck, .slice ab nb cb, .slice a5 n5 c5] 39)).cell? ⟨w.heap.size, 3, none⟩ = some _ := hBp.1 3 _ rfl
    have d4 : (w3.alloc (.cells #[.string ⟨#[]⟩, .slice none 0 0, .int .i64 k0, .string nm, .bool f, .int .u64 u, .slice ap np cp, .slice ak nk ck, .slice ab nb cb, .slice a5 n5 c5] 39)).cell? ⟨w.heap.size, 4, none⟩ = some _ := hBp.1 4 _ rfl
    have d5 : (w3.alloc (.cells #[.string ⟨#[]⟩, .slice none 0 0, .int .i64 k0, .string nm, .bool f, .int .u64 u, .slice ap np cp, .slice ak nk ck, .slice ab nb cb, .slice a5 n5 c5] 39)).cell? ⟨w.heap.size, 5, none⟩ = some _ := hBp.1 5 _ rfl
    have d6 : (w3.alloc (.cells #[.string ⟨#[]⟩, .slice none 0 0, .int .i64 k0, .string nm, .bool f, .int .u64 u, .slice ap np cp, .slice ak nk ck, .slice ab nb cb, .slice a5 n5 c5] 39)).cell? ⟨w.heap.size, 6, none⟩ = some _ := hBp.1 6 _ rfl
    have d7 : (w3.alloc (.cells #[.string ⟨#[]⟩, .slice none 0 0, .int .i64 k0, .string nm, .bool f, .int .u64 u, .slice ap np cp, .slice ak nk ck, .slice ab nb cb, .slice a5 n5 c5] 39)).cell? ⟨w.heap.size, 7, none⟩ = some _ := hBp.1 7 _ rfl
    have d8 : (w3.alloc (.cells #[.string ⟨#[]⟩, .slice none 0 0, .int .i64 k0, .string nm, .bool f, .int .u64 u, .slice ap np cp, .slice ak nk ck, .slice ab nb cb, .slice a5 n5 c5] 39)).cell? ⟨w.heap.size, 8, none⟩ = some _ := hBp.1 8 _ rfl
    have d9 : (w3.alloc (.cells #[.string ⟨#[]⟩, .slice none 0 0, .int .i64 k0, .string nm, .bool f, .int .u64 u, .slice ap np cp, .slice ak nk ck, .slice ab nb cb, .slice a5 n5 c5] 39)).cell? ⟨w.heap.size, 9, none⟩ = some _ := hBp.1 9 _ rfl
    have z0 : (w3.alloc (.cells #[.string ⟨#[]⟩, .slice none 0 0, .int .i64 k0, .string nm, .bool f, .int .u64 u, .slice ap np cp, .slice ak nk ck, .slice ab nb cb, .slice a5 n5 c5] 39)).frozen? ⟨w.heap.size, 0, none⟩ = false := hBp.2 0
    have z1 : (w3.alloc (.cells #[.string ⟨#[]⟩, .slice none 0 0, .int .i64 k0, .string nm, .bool f, .int .u64 u, .slice ap np cp, .slice ak nk ck, .slice ab nb cb, .slice a5 n5 c5] 39)).frozen? ⟨w.heap.size, 1, none⟩ = false := hBp.2 1
    have z2 : (w3.alloc (.cells #[.string ⟨#[]⟩, .slice none 0 0, .int .i64 k0, .string nm, .bool f, .int .u64 u, .slice ap np cp, .slice ak nk ck, .slice ab nb cb, .slice a5 n5 c5] 39)).frozen? ⟨w.heap.size, 2, none⟩ = false := hBp.2 2
    have z3 : (w3.alloc (.cells #[.string ⟨#[]⟩, .slice none 0 0, .int .i64 k0, .string nm, .bool f, .int .u64 u, .slice ap np cp, .slice ak nk ck, .slice ab nb cb, .slice a5 n5 c5] 39)).frozen? ⟨w.heap.size, 3, none⟩ = false := hBp.2 3
    have z4 : (w3.alloc (.cells #[.string ⟨#[]⟩, .slice none 0 0, .int .i64 k0, .string nm, .bool f, .int .u64 u, .slice ap np cp, .slice ak nk ck, .slice ab nb cb, .slice a5 n5 c5] 39)).frozen? ⟨w.heap.size, 4, none⟩ = false := hBp.2 4
    have z5 : (w3.alloc (.cells #[.string ⟨#[]⟩, .slice none 0 0, .int .i64 k0, .string nm, .bool f, .int .u64 u, .slice ap np cp, .slice ak nk ck, .slice ab nb cb, .slice a5 n5 c5] 39)).frozen? ⟨w.heap.size, 5, none⟩ = false := hBp.2 5
    have z6 : (w3.alloc (.cells #[.string ⟨#[]⟩, .slice none 0 0, .int .i64 k0, .string nm, .bool f, .int .u64 u, .slice ap np cp, .slice ak nk ck, .slice ab nb cb, .slice a5 n5 c5] 39)).frozen? ⟨w.heap.size, 6, none⟩ = false := hBp.2 6
    have z7 : (w3.alloc (.cells #[.string ⟨#[]⟩, .slice none 0 0, .int .i64 k0, .string nm, .bool f, .int .u64 u, .slice ap np cp, .slice ak nk ck, .slice ab nb cb, .slice a5 n5 c5] 39)).frozen? ⟨w.heap.size, 7, none⟩ = false := hBp.2 7
    have z8 : (w3.alloc (.cells #[.string ⟨#[]⟩, .slice none 0 0, .int .i64 k0, .string nm, .bool f, .int .u64 u, .slice ap np cp, .slice ak nk ck, .slice ab nb cb, .slice a5 n5 c5] 39)).frozen? ⟨w.heap.size, 8, none⟩ = false := hBp.2 8
    have z9 : (w3.alloc (.cells #[.string ⟨#[]⟩, .slice none 0 0, .int .i64 k0, .string nm, .bool f, .int .u64 u, .slice ap np cp, .slice ak nk ck, .slice ab nb cb, .slice a5 n5 c5] 39)).frozen? ⟨w.heap.size, 9, none⟩ = false := hBp.2 9
    have HBp := Hd hBp
    have HY := Hd hy
    clear hBp hy
    go_wp2_with fail
    have hF := ((HBp.out).b10v (.string ⟨#[]⟩) (.slice none 0 0) (.int .i64 k0) (.string nm) (.bool f) (.int .u64 u) (.slice ap np cp) (.slice ak nk ck) (.slice ab nb cb) (.slice a5 n5 c5))
    have v0 := hF.1 0 _ rfl
    have v1 := hF.1 1 _ rfl
    have v2 := hF.1 2 _ rfl
    have v3 := hF.1 3 _ rfl
    have v4 := hF.1 4 _ rfl
    have v5 := hF.1 5 _ rfl
    have v6 := hF.1 6 _ rfl
    have v7 := hF.1 7 _ rfl
    have v8 := hF.1 8 _ rfl
    have v9 := hF.1 9 _ rfl
    refine bodyPost_ret (v := .agg #[.string ⟨#[]⟩, .slice none 0 0, .int .i64 k0, .string nm, .bool f, .int .u64 u, .slice ap np cp, .slice ak nk ck, .slice ab nb cb, .slice a5 n5 c5]) (by simp [results, Tryz.results59, go_sem, v0, v1, v2, v3, v4, v5, v6, v7, v8, v9]) rfl ?_
    rw [HPv.out]
    refine ⟨⟨.slice none 0 0, _, _, _, _, _, _, _, _, rfl, RowAt.nil _ _ _ _, HAx.out.kp (lo' := w.heap.size) ((Kp.below HY.out (by omega)).trans ((Kp.s10 (Or.inl (by omega))))) (by omega)⟩, (((((((((((H3.out.1.later HY.out)).over hlt _).over hlt _).over hlt _).over hlt _).over hlt _).over hlt _).over hlt _).over hlt _).over hlt _).over hlt _, (grown_new (grown_new (grown_new (grown_new (grown_new (grown_new (grown_new (grown_new (grown_new (grown_new (Gt (grown_of (b := b) HX.out.1) (Gt H3.out.2 (grown_of (b := b) HY.out))) Nr _) Nr _) Nr _) Nr _) Nr _) Nr _) Nr _) Nr _) Nr _) Nr _)⟩
  | cons n ns =>
    have HPv := Hd (show bindD (lastOf 1 T) (exprD (lastOf 1 T) k) s = ((n, ns, x), s3) from HPu.out)
    clear HPu
    obtain ⟨g2, rfl, kk2, ht2⟩ := own_at HNo.out (by simp)
    have p0 : w3.cell? ⟨g2, 0, none⟩ = some (.string (tx n)) := ht2 0 _ rfl
    have hcl : ns.length + 1 ≤ cN := kk2
    have fl0 : (0 : Int) < (ns.length : Int) + 1 := by omega
    have fl1 : (1 : Int) ≤ (ns.length : Int) + 1 := by omega
    simp only [List.length_cons] at *
    have hy0 := (Below.refl w3.heap.size w3).alloc Nr (.cells #[.string ⟨#[]⟩, .slice none 0 0, .int .i64 k0, .string nm, .bool f, .int .u64 u, .slice ap np cp, .slice ak nk ck, .slice ab nb cb, .slice a5 n5 c5] 39)
    have q0 := later' hy0 p0
    clear hy0 ht2 kk2
    by_cases hc1 : cN = 1
    · skip
      subst hc1
      obtain rfl : ns = [] := List.length_eq_zero_iff.1 (by omega)
      clear fl0 fl1 hcl
      simp only [List.length_nil, Nat.zero_add] at *
      have hy := (Below.refl w3.heap.size w3).alloc Nr (.cells #[.string (tx n), .slice (some ⟨g2, 0, none⟩) 0 0, .int .i64 k0, .string nm, .bool f, .int .u64 u, .slice ap np cp, .slice ak nk ck, .slice ab nb cb, .slice a5 n5 c5] 39)
      have hszA : w3.heap.size ≤ (w3.alloc (.cells #[.string (tx n), .slice (some ⟨g2, 0, none⟩) 0 0, .int .i64 k0, .string nm, .bool f, .int .u64 u, .slice ap np cp, .slice ak nk ck, .slice ab nb cb, .slice a5 n5 c5] 39)).heap.size := hy.size
      have hBp : BoxW (w3.alloc (.cells #[.string (tx n), .slice (some ⟨g2, 0, none⟩) 0 0, .int .i64 k0, .string nm, .bool f, .int .u64 u, .slice ap np cp, .slice ak nk ck, .slice ab nb cb, .slice a5 n5 c5] 39)) w.heap.size [.string ⟨#[]⟩, .slice none 0 0, .int .i64 0, .string ⟨#[]⟩, .bool false, .int .u64 0, .slice none 0 0, .slice none 0 0, .slice none 0 0, .slice none 0 0] := boxw_grown HX.out.2 (Gt H3.out.2 (grown_of (b := b) hy)) (by omega)
      have d0 : (w3.alloc (.cells #[.string (tx n), .slice (some ⟨g2, 0, none⟩) 0 0, .int .i64 k0, .string nm, .bool f, .int .u64 u, .slice ap np cp, .slice ak nk ck, .slice ab nb cb, .slice a5 n5 c5] 39)).cell? ⟨w.heap.size, 0, none⟩ = some _ := hBp.1 0 _ rfl
      have d1 : (w3.alloc (.cells #[.string (tx n), .slice (some ⟨g2, 0, none⟩) 0 0, .int .i64 k0, .string nm, .bool f, .int .u64 u, .slice ap np cp, .slice ak nk ck, .slice ab nb cb, .slice a5 n5 c5] 39)).cell? ⟨w.heap.size, 1, none⟩ = some _ := hBp.1 1 _ rfl
      have d2 : (w3.alloc (.cells #[.string (tx n), .slice (some ⟨g2, 0, none⟩) 0 0, .int .i64 k0, .string nm, .bool f, .int .u64 u, .slice ap np cp, .slice ak nk ck, .slice ab nb cb, .slice a5 n5 c5] 39)).cell? ⟨w.heap.size, 2, none⟩ = some _ := hBp.1 2 _ rfl
      have d3 : (w3.alloc (.cells #[.string (tx n), .slice (some ⟨g2, 0, none⟩) 0 0, .int .i64 k0, .string nm, .bool f, .int .u64 u, .slice ap np cp, .slice ak nk ck, .slice ab nb cb, .slice a5 n5 c5] 39)).cell? ⟨w.heap.size, 3, none⟩ = some _ := hBp.1 3 _ rfl
      have d4 : (w3.alloc (.cells #[.string (tx n), .slice (some ⟨g2, 0, none⟩) 0 0, .int .i64 k0, .string nm, .bool f, .int .u64 u, .slice ap np cp, .slice ak nk ck, .slice ab nb cb, .slice a5 n5 c5] 39)).cell? ⟨w.heap.size, 4, none⟩ = some _ := hBp.1 4 _ rfl
      have d5 : (w3.alloc (.cells #[.string (tx n), .slice (some ⟨g2, 0, none⟩) 0 0, .int .i64 k0, .string nm, .bool f, .int .u64 u, .slice ap np cp, .slice ak nk ck, .slice ab nb cb, .slice a5 n5 c5] 39)).cell? ⟨w.heap.size, 5, none⟩ = some _ := hBp.1 5 _ rfl
      have d6 : (w3.alloc (.cells #[.string (tx n), .slice (some ⟨g2, 0, none⟩) 0 0, .int .i64 k0, .string nm, .bool f, .int .u64 u, .slice ap np cp, .slice ak nk ck, .slice ab nb cb, .slice a5 n5 c5] 39)).cell? ⟨w.heap.size, 6, none⟩ = some _ := hBp.1 6 _ rfl
      have d7 : (w3.alloc (.cells #[.string (tx n), .slice (some ⟨g2, 0, none⟩) 0 0, .int .i64 k0, .string nm, .bool f, .int .u64 u, .slice ap np cp, .slice ak nk ck, .slice ab nb cb, .slice a5 n5 c5] 39)).cell? ⟨w.heap.size, 7, none⟩ = some _ := hBp.1 7 _ rfl
      have d8 : (w3.alloc (.cells #[.string (tx n), .slice (some ⟨g2, 0, none⟩) 0 0, .int .i64 k0, .string nm, .bool f, .int .u64 u, .slice ap np cp, .slice ak nk ck, .slice ab nb cb, .slice a5 n5 c5] 39)).cell? ⟨w.heap.size, 8, none⟩ = some _ := hBp.1 8 _ rfl
      have d9 : (w3.alloc (.cells #[.string (tx n), .slice (some ⟨g2, 0, none⟩) 0 0, .int .i64 k0, .string nm, .bool f, .int .u64 u, .slice ap np cp, .slice ak nk ck, .slice ab nb cb, .slice a5 n5 c5] 39)).cell? ⟨w.heap.size, 9, none⟩ = some _ := hBp.1 9 _ rfl
      have z0 : (w3.alloc (.cells #[.string (tx n), .slice (some ⟨g2, 0, none⟩) 0 0, .int .i64 k0, .string nm, .bool f, .int .u64 u, .slice ap np cp, .slice ak nk ck, .slice ab nb cb, .slice a5 n5 c5] 39)).frozen? ⟨w.heap.size, 0, none⟩ = false := hBp.2 0
      have z1 : (w3.alloc (.cells #[.string (tx n), .slice (some ⟨g2, 0, none⟩) 0 0, .int .i64 k0, .string nm, .bool f, .int .u64 u, .slice ap np cp, .slice ak nk ck, .slice ab nb cb, .slice a5 n5 c5] 39)).frozen? ⟨w.heap.size, 1, none⟩ = false := hBp.2 1
      have z2 : (w3.alloc (.cells #[.string (tx n), .slice (some ⟨g2, 0, none⟩) 0 0, .int .i64 k0, .string nm, .bool f, .int .u64 u, .slice ap np cp, .slice ak nk ck, .slice ab nb cb, .slice a5 n5 c5] 39)).frozen? ⟨w.heap.size, 2, none⟩ = false := hBp.2 2
      have z3 : (w3.alloc (.cells #[.string (tx n), .slice (some ⟨g2, 0, none⟩) 0 0, .int .i64 k0, .string nm, .bool f, .int .u64 u, .slice ap np cp, .slice ak nk ck, .slice ab nb cb, .slice a5 n5 c5] 39)).frozen? ⟨w.heap.size, 3, none⟩ = false := hBp.2 3
      have z4 : (w3.alloc (.cells #[.string (tx n), .slice (some ⟨g2, 0, none⟩) 0 0, .int .i64 k0, .string nm, .bool f, .int .u64 u, .slice ap np cp, .slice ak nk ck, .slice ab nb cb, .slice a5 n5 c5] 39)).frozen? ⟨w.heap.size, 4, none⟩ = false := hBp.2 4
      have z5 : (w3.alloc (.cells #[.string (tx n), .slice (some ⟨g2, 0, none⟩) 0 0, .int .i64 k0, .string nm, .bool f, .int .u64 u, .slice ap np cp, .slice ak nk ck, .slice ab nb cb, .slice a5 n5 c5] 39)).frozen? ⟨w.heap.size, 5, none⟩ = false := hBp.2 5
      have z6 : (w3.alloc (.cells #[.string (tx n), .slice (some ⟨g2, 0, none⟩) 0 0, .int .i64 k0, .string nm, .bool f, .int .u64 u, .slice ap np cp, .slice ak nk ck, .slice ab nb cb, .slice a5 n5 c5] 39)).frozen? ⟨w.heap.size, 6, none⟩ = false := hBp.2 6
      have z7 : (w3.alloc (.cells #[.string (tx n), .slice (some ⟨g2, 0, none⟩) 0 0, .int .i64 k0, .string nm, .bool f, .int .u64 u, .slice ap np cp, .slice ak nk ck, .slice ab nb cb, .slice a5 n5 c5] 39)).frozen? ⟨w.heap.size, 7, none⟩ = false := hBp.2 7
      have z8 : (w3.alloc (.cells #[.string (tx n), .slice (some ⟨g2, 0, none⟩) 0 0, .int .i64 k0, .string nm, .bool f, .int .u64 u, .slice ap np cp, .slice ak nk ck, .slice ab nb cb, .slice a5 n5 c5] 39)).frozen? ⟨w.heap.size, 8, none⟩ = false := hBp.2 8
      have z9 : (w3.alloc (.cells #[.string (tx n), .slice (some ⟨g2, 0, none⟩) 0 0, .int .i64 k0, .string nm, .bool f, .int .u64 u, .slice ap np cp, .slice ak nk ck, .slice ab nb cb, .slice a5 n5 c5] 39)).frozen? ⟨w.heap.size, 9, none⟩ = false := hBp.2 9
      have HBp := Hd hBp
      have HY := Hd hy
      clear hBp hy
      go_wp2_with fail
      have hF := ((HBp.out).b10v (.string (tx n)) (.slice (some ⟨g2, 0, none⟩) 0 0) (.int .i64 k0) (.string nm) (.bool f) (.int .u64 u) (.slice ap np cp) (.slice ak nk ck) (.slice ab nb cb) (.slice a5 n5 c5))
      have v0 := hF.1 0 _ rfl
      have v1 := hF.1 1 _ rfl
      have v2 := hF.1 2 _ rfl
      have v3 := hF.1 3 _ rfl
      have v4 := hF.1 4 _ rfl
      have v5 := hF.1 5 _ rfl
      have v6 := hF.1 6 _ rfl
      have v7 := hF.1 7 _ rfl
      have v8 := hF.1 8 _ rfl
      have v9 := hF.1 9 _ rfl
      refine bodyPost_ret (v := .agg #[.string (tx n), .slice (some ⟨g2, 0, none⟩) 0 0, .int .i64 k0, .string nm, .bool f, .int .u64 u, .slice ap np cp, .slice ak nk ck, .slice ab nb cb, .slice a5 n5 c5]) (by simp [results, Tryz.results59, go_sem, v0, v1, v2, v3, v4, v5, v6, v7, v8, v9]) rfl ?_
      rw [HPv.out]
      refine ⟨⟨.slice (some ⟨g2, 0, none⟩) 0 0, _, _, _, _, _, _, _, _, rfl, ((RowAt.own HNo.out).tail (n := 0) (cs := [.string (tx n)]) rfl (Or.inl rfl)).kp (lo' := w.heap.size) ((Kp.below HY.out (by omega)).trans ((Kp.s10 (Or.inl (by omega))))) (by omega), HAx.out.kp (lo' := w.heap.size) ((Kp.below HY.out (by omega)).trans ((Kp.s10 (Or.inl (by omega))))) (by omega)⟩, (((((((((((H3.out.1.later HY.out)).over hlt _).over hlt _).over hlt _).over hlt _).over hlt _).over hlt _).over hlt _).over hlt _).over hlt _).over hlt _, (grown_new (grown_new (grown_new (grown_new (grown_new (grown_new (grown_new (grown_new (grown_new (grown_new (Gt (grown_of (b := b) HX.out.1) (Gt H3.out.2 (grown_of (b := b) HY.out))) Nr _) Nr _) Nr _) Nr _) Nr _) Nr _) Nr _) Nr _) Nr _) Nr _)⟩
    · skip
      have hy := (Below.refl w3.heap.size w3).alloc Nr (.cells #[.string (tx n), .slice (some ⟨g2, 1, none⟩) ns.length (cN - 1), .int .i64 k0, .string nm, .bool f, .int .u64 u, .slice ap np cp, .slice ak nk ck, .slice ab nb cb, .slice a5 n5 c5] 39)
      have hszA : w3.heap.size ≤ (w3.alloc (.cells #[.string (tx n), .slice (some ⟨g2, 1, none⟩) ns.length (cN - 1), .int .i64 k0, .string nm, .bool f, .int .u64 u, .slice ap np cp, .slice ak nk ck, .slice ab nb cb, .slice a5 n5 c5] 39)).heap.size := hy.size
      have hBp : BoxW (w3.alloc (.cells #[.string (tx n), .slice (some ⟨g2, 1, none⟩) ns.length (cN - 1), .int .i64 k0, .string nm, .bool f, .int .u64 u, .slice ap np cp, .slice ak nk ck, .slice ab nb cb, .slice a5 n5 c5] 39)) w.heap.size [.string ⟨#[]⟩, .slice none 0 0, .int .i64 0, .string ⟨#[]⟩, .bool false, .int .u64 0, .slice none 0 0, .slice none 0 0, .slice none 0 0, .slice none 0 0] := boxw_grown HX.out.2 (Gt H3.out.2 (grown_of (b := b) hy)) (by omega)
      have d0 : (w3.alloc (.cells #[.string (tx n), .slice (some ⟨g2, 1, none⟩) ns.length (cN - 1), .int .i64 k0, .string nm, .bool f, .int .u64 u, .slice ap np cp, .slice ak nk ck, .slice ab nb cb, .slice a5 n5 c5] 39)).cell? ⟨w.heap.size, 0, none⟩ = some _ := hBp.1 0 _ rfl
      have d1 : (w3.alloc (.cells #[.string (tx n), .slice (some ⟨g2, 1, none⟩) ns.length (cN - 1), .int .i64 k0, .string nm, .bool f, .int .u64 u, .slice ap np cp, .slice ak nk ck, .slice ab nb cb, .slice a5 n5 c5] 39)).cell? ⟨w.heap.size, 1, none⟩ = some _ := hBp.1 1 _ rfl
      have d2 : (w3.alloc (.cells #[.string (tx n), .slice (some ⟨g2, 1, none⟩) ns.length (cN - 1), .int .i64 k0, .string nm, .bool f, .int .u64 u, .slice ap np cp, .slice ak nk ck, .slice ab nb cb, .slice a5 n5 c5] 39)).cell? ⟨w.heap.size, 2, none⟩ = some _ := hBp.1 2 _ rfl
      have d3 : (w3.alloc (.cells #[.string (tx n), .slice (some ⟨g2, 1, none⟩) ns.length (cN - 1), .int .i64 k0, .string nm, .bool f, .int .u64 u, .slice ap np cp, .slice ak nk ck, .slice ab nb cb, .slice a5 n5 c5] 39)).cell? ⟨w.heap.size, 3, none⟩ = some _ := hBp.1 3 _ rfl
      have d4 : (w3.alloc (.cells #[.string (tx n), .slice (some ⟨g2, 1, none⟩) ns.length (cN - 1), .int .i64 k0, .string nm, .bool f, .int .u64 u, .slice ap np cp, .slice ak nk ck, .slice ab nb cb, .slice a5 n5 c5] 39)).cell? ⟨w.heap.size, 4, none⟩ = some _ := hBp.1 4 _ rfl
      have d5 : (w3.alloc (.cells #[.string (tx n), .slice (some ⟨g2, 1, none⟩) ns.length (cN - 1), .int .i64 k0, .string nm, .bool f, .int .u64 u, .slice ap np cp, .slice ak nk ck, .slice ab nb cb, .slice a5 n5 c5] 39)).cell? ⟨w.heap.size, 5, none⟩ = some _ := hBp.1 5 _ rfl
      have d6 : (w3.alloc (.cells #[.string (tx n), .slice (some ⟨g2, 1, none⟩) ns.length (cN - 1), .int .i64 k0, .string nm, .bool f, .int .u64 u, .slice ap np cp, .slice ak nk ck, .slice ab nb cb, .slice a5 n5 c5] 39)).cell? ⟨w.heap.size, 6, none⟩ = some _ := hBp.1 6 _ rfl
      have d7 : (w3.alloc (.cells #[.string (tx n), .slice (some ⟨g2, 1, none⟩) ns.length (cN - 1), .int .i64 k0, .string nm, .bool f, .int .u64 u, .slice ap np cp, .slice ak nk ck, .slice ab nb cb, .slice a5 n5 c5] 39)).cell? ⟨w.heap.size, 7, none⟩ = some _ := hBp.1 7 _ rfl
      have d8 : (w3.alloc (.cells #[.string (tx n), .slice (some ⟨g2, 1, none⟩) ns.length (cN - 1), .int .i64 k0, .string nm, .bool f, .int .u64 u, .slice ap np cp, .slice ak nk ck, .slice ab nb cb, .slice a5 n5 c5] 39)).cell? ⟨w.heap.size, 8, none⟩ = some _ := hBp.1 8 _ rfl
      have d9 : (w3.alloc (.cells #[.string (tx n), .slice (some ⟨g2, 1, none⟩) ns.length (cN - 1), .int .i64 k0, .string nm, .bool f, .int .u64 u, .slice ap np cp, .slice ak nk ck, .slice ab nb cb, .slice a5 n5 c5] 39)).cell? ⟨w.heap.size, 9, none⟩ = some _ := hBp.1 9 _ rfl
      have z0 : (w3.alloc (.cells #[.string (tx n), .slice (some ⟨g2, 1, none⟩) ns.length (cN - 1), .int .i64 k0, .string nm, .bool f, .int .u64 u, .slice ap np cp, .slice ak nk ck, .slice ab nb cb, .slice a5 n5 c5] 39)).frozen? ⟨w.heap.size, 0, none⟩ = false := hBp.2 0
      have z1 : (w3.alloc (.cells #[.string (tx n), .slice (some ⟨g2, 1, none⟩) ns.length (cN - 1), .int .i64 k0, .string nm, .bool f, .int .u64 u, .slice ap np cp, .slice ak nk ck, .slice ab nb cb, .slice a5 n5 c5] 39)).frozen? ⟨w.heap.size, 1, none⟩ = false := hBp.2 1
      have z2 : (w3.alloc (.cells #[.string (tx n), .slice (some ⟨g2, 1, none⟩) ns.length (cN - 1), .int .i64 k0, .string nm, .bool f, .int .u64 u, .slice ap np cp, .slice ak nk ck, .slice ab nb cb, .slice a5 n5 c5] 39)).frozen? ⟨w.heap.size, 2, none⟩ = false := hBp.2 2
      have z3 : (w3.alloc (.cells #[.string (tx n), .slice (some ⟨g2, 1, none⟩) ns.length (cN - 1), .int .i64 k0, .string nm, .bool f, .int .u64 u, .slice ap np cp, .slice ak nk ck, .slice ab nb cb, .slice a5 n5 c5] 39)).frozen? ⟨w.heap.size, 3, none⟩ = false := hBp.2 3
      have z4 : (w3.alloc (.cells #[.string (tx n), .slice (some ⟨g2, 1, none⟩) ns.length (cN - 1), .int .i64 k0, .string nm, .bool f, .int .u64 u, .slice ap np cp, .slice ak nk ck, .slice ab nb cb, .slice a5 n5 c5] 39)).frozen? ⟨w.heap.size, 4, none⟩ = false := hBp.2 4
      have z5 : (w3.alloc (.cells #[.string (tx n), .slice (some ⟨g2, 1, none⟩) ns.length (cN - 1), .int .i64 k0, .string nm, .bool f, .int .u64 u, .slice ap np cp, .slice ak nk ck, .slice ab nb cb, .slice a5 n5 c5] 39)).frozen? ⟨w.heap.size, 5, none⟩ = false := hBp.2 5
      have z6 : (w3.alloc (.cells #[.string (tx n), .slice (some ⟨g2, 1, none⟩) ns.length (cN - 1), .int .i64 k0, .string nm, .bool f, .int .u64 u, .slice ap np cp, .slice ak nk ck, .slice ab nb cb, .slice a5 n5 c5] 39)).frozen? ⟨w.heap.size, 6, none⟩ = false := hBp.2 6
      have z7 : (w3.alloc (.cells #[.string (tx n), .slice (some ⟨g2, 1, none⟩) ns.length (cN - 1), .int .i64 k0, .string nm, .bool f, .int .u64 u, .slice ap np cp, .slice ak nk ck, .slice ab nb cb, .slice a5 n5 c5] 39)).frozen? ⟨w.heap.size, 7, none⟩ = false := hBp.2 7
      have z8 : (w3.alloc (.cells #[.string (tx n), .slice (some ⟨g2, 1, none⟩) ns.length (cN - 1), .int .i64 k0, .string nm, .bool f, .int .u64 u, .slice ap np cp, .slice ak nk ck, .slice ab nb cb, .slice a5 n5 c5] 39)).frozen? ⟨w.heap.size, 8, none⟩ = false := hBp.2 8
      have z9 : (w3.alloc (.cells #[.string (tx n), .slice (some ⟨g2, 1, none⟩) ns.length (cN - 1), .int .i64 k0, .string nm, .bool f, .int .u64 u, .slice ap np cp, .slice ak nk ck, .slice ab nb cb, .slice a5 n5 c5] 39)).frozen? ⟨w.heap.size, 9, none⟩ = false := hBp.2 9
      have HBp := Hd hBp
      have HY := Hd hy
      clear hBp hy
      go_wp2_with fail
      have hF := ((HBp.out).b10v (.string (tx n)) (.slice (some ⟨g2, 1, none⟩) ns.length (cN - 1)) (.int .i64 k0) (.string nm) (.bool f) (.int .u64 u) (.slice ap np cp) (.slice ak nk ck) (.slice ab nb cb) (.slice a5 n5 c5))
      have v0 := hF.1 0 _ rfl
      have v1 := hF.1 1 _ rfl
      have v2 := hF.1 2 _ rfl
      have v3 := hF.1 3 _ rfl
      have v4 := hF.1 4 _ rfl
      have v5 := hF.1 5 _ rfl
      have v6 := hF.1 6 _ rfl
      have v7 := hF.1 7 _ rfl
      have v8 := hF.1 8 _ rfl
      have v9 := hF.1 9 _ rfl
      refine bodyPost_ret (v := .agg #[.string (tx n), .slice (some ⟨g2, 1, none⟩) ns.length (cN - 1), .int .i64 k0, .string nm, .bool f, .int .u64 u, .slice ap np cp, .slice ak nk ck, .slice ab nb cb, .slice a5 n5 c5]) (by simp [results, Tryz.results59, go_sem, v0, v1, v2, v3, v4, v5, v6, v7, v8, v9]) rfl ?_
      rw [HPv.out]
      refine ⟨⟨.slice (some ⟨g2, 1, none⟩) ns.length (cN - 1), _, _, _, _, _, _, _, _, rfl, ((RowAt.own HNo.out).tail (n := ns.length) (cs := [.string (tx n)]) rfl (Or.inr rfl)).kp (lo' := w.heap.size) ((Kp.below HY.out (by omega)).trans ((Kp.s10 (Or.inl (by omega))))) (by omega), HAx.out.kp (lo' := w.heap.size) ((Kp.below HY.out (by omega)).trans ((Kp.s10 (Or.inl (by omega))))) (by omega)⟩, (((((((((((H3.out.1.later HY.out)).over hlt _).over hlt _).over hlt _).over hlt _).over hlt _).over hlt _).over hlt _).over hlt _).over hlt _).over hlt _, (grown_new (grown_new (grown_new (grown_new (grown_new (grown_new (grown_new (grown_new (grown_new (grown_new (Gt (grown_of (b := b) HX.out.1) (Gt H3.out.2 (grown_of (b := b) HY.out))) Nr _) Nr _) Nr _) Nr _) Nr _) Nr _) Nr _) Nr _) Nr _) Nr _)⟩
end Go.Proofs.YthehgcmhcioffaaGreatDoor
