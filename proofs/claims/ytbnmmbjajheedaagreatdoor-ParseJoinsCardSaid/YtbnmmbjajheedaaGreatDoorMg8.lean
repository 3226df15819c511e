import Derived.Test.YtbnmmbjajheedaaGreatDoorMg6
import Derived.Test.YtbnmmbjajheedaaGreatDoorMg7
namespace Go.Proofs.YtbnmmbjajheedaaGreatDoor
set_option maxHeartbeats 64000000
set_option maxRecDepth 100000
open Go.RowKit Go.Lib
def AltV (lo : Nat) (x : Alt) (e : Ending) (w : World) : Prop :=
 ∃ vp k n f u vq vk vb va, e = .returned (.agg #[.int .i64 x.1, .string (tx x.2.1), .bool x.2.2.1, .int .u64 x.2.2.2.1, vp, .int .i64 k, .string n, .bool f, .int .u64 u, vq, vk, vb, va]) ∧ RowAt w (fun g => lo ≤ g) 9 1 vp x.2.2.2.2.1.length (namesV x.2.2.2.2.1) ∧ ExAt w (fun g => lo ≤ g) x.2.2.2.2.2 [.int .i64 k, .string n, .bool f, .int .u64 u, vq, vk, vb, va]
theorem alt_any (b me ma : Nat) (B : Bx) (n d : Nat) (hEx : ExprC b me ma B n d) (last : Int) (rest : List Tok) (hn : rest.length ≤ n) (hL : rest.length ≤ 4096) (w : World) (hC : Ctx w b me ma B) (hR : Rdr w b me ma last rest d) : Calls Tryz.prog 125 #[.pointer (some ⟨b, 0, none⟩)] w (OutSaid b me ma d (AltV w.heap.size) (altO (exprO n d) last rest) w) := by
 have hlt : b < w.heap.size := Bl hR.c1
 have hx := (Below.refl w.heap.size w).alloc Nr (.cells #[.int .i64 0, .string ⟨#[]⟩, .bool false, .int .u64 0, .slice none 0 0, .int .i64 0, .string ⟨#[]⟩, .bool false, .int .u64 0, .slice none 0 0, .slice none 0 0, .slice none 0 0, .slice none 0 0] 87)
 have hBp := BoxW.alloc w #[.int .i64 0, .string ⟨#[]⟩, .bool false, .int .u64 0, .slice none 0 0, .int .i64 0, .string ⟨#[]⟩, .bool false, .int .u64 0, .slice none 0 0, .slice none 0 0, .slice none 0 0, .slice none 0 0] 87
 have HX := Hd (Ai hx (Ai (hR.later hx) (Ai hBp (hC.later (grown_of hx)))))
 have hsz0 : w.heap.size + 1 ≤ (w.alloc (.cells #[.int .i64 0, .string ⟨#[]⟩, .bool false, .int .u64 0, .slice none 0 0, .int .i64 0, .string ⟨#[]⟩, .bool false, .int .u64 0, .slice none 0 0, .slice none 0 0, .slice none 0 0, .slice none 0 0] 87)).heap.size := by simp
 clear hx hR hBp
 go_enter Tryz.func125, Tryz.ntmps125
 go_upto_region 1 with fail
 generalize (w.alloc (.cells #[.int .i64 0, .string ⟨#[]⟩, .bool false, .int .u64 0, .slice none 0 0, .int .i64 0, .string ⟨#[]⟩, .bool false, .int .u64 0, .slice none 0 0, .slice none 0 0, .slice none 0 0, .slice none 0 0] 87)) = W at *
 have HP := Hd (show altO (exprO n d) last rest = if shapeL rest = sCon then (takeO last rest).bind fun t l r => (wantO sArrow (namesO l r []).2.1 (namesO l r []).2.2).bind fun _ l2 r2 => (exprO n d l2 r2).bind fun x l3 r3 => .ok (0, t.1.t, false, 0, (namesO l r []).1, x) l3 r3 else if shapeL rest = sNum then (takeO last rest).bind fun t l r => (wantO sArrow l r).bind fun _ l2 r2 => (exprO n d l2 r2).bind fun x l3 r3 => .ok (1, [], t.1.f, t.1.x, [], x) l3 r3 else (wantO sName last rest).bind fun t l r => (wantO sArrow l r).bind fun _ l2 r2 => (exprO n d l2 r2).bind fun x l3 r3 => .ok (2, t.1.t, false, 0, [], x) l3 r3 from rfl)
 have H0 := Hd (Ai HX.out.2.1 (Ai (grown_of (b := b) (Below.refl W.heap.size W)) HX.out.2.2.2))
 have hy := (Below.refl W.heap.size W).alloc Nr (.cells #[.int .i64 0, .string ⟨#[]⟩, .bool false, .int .u64 0, .slice none 0 0, .int .i64 0, .string ⟨#[]⟩, .bool false, .int .u64 0, .slice none 0 0, .slice none 0 0, .slice none 0 0, .slice none 0 0] 87)
 have hBq := BoxW.alloc W #[.int .i64 0, .string ⟨#[]⟩, .bool false, .int .u64 0, .slice none 0 0, .int .i64 0, .string ⟨#[]⟩, .bool false, .int .u64 0, .slice none 0 0, .slice none 0 0, .slice none 0 0, .slice none 0 0] 87
 have HBq := Hd hBq
 have hg := grown_of (b := b) hy
 have hgW := Gt H0.out.2.1 hg
 have HG1 := Hd hg
 have hsz1 : W.heap.size + 1 ≤ (W.alloc (.cells #[.int .i64 0, .string ⟨#[]⟩, .bool false, .int .u64 0, .slice none 0 0, .int .i64 0, .string ⟨#[]⟩, .bool false, .int .u64 0, .slice none 0 0, .slice none 0 0, .slice none 0 0, .slice none 0 0] 87)).heap.size := by simp
 have H1 := Hd (Ai (H0.out.1.later hy) (Ai hgW (HX.out.2.2.2.later hgW)))
 clear hg hgW hy hBq
 go_upto_region 3 with fail
 generalize (W.alloc (.cells #[.int .i64 0, .string ⟨#[]⟩, .bool false, .int .u64 0, .slice none 0 0, .int .i64 0, .string ⟨#[]⟩, .bool false, .int .u64 0, .slice none 0 0, .slice none 0 0, .slice none 0 0, .slice none 0 0] 87)) = w1 at *
 have c0 := H1.out.2.2.env.con.1.1
 have c1 := H1.out.2.2.env.con.1.2
 have HC := Hd (isAhead_any b me ma last rest d sCon w1 H1.out.1)
 go_wp2_with fail
 refine HC.out.mono ?_
 rintro e w2 ⟨rfl, hb⟩
 have hg := grown_of (b := b) hb
 have hgW := Gt H1.out.2.1 hg
 have HG2 := Hd hg
 have hsz2 : w1.heap.size ≤ w2.heap.size := hg.size
 have H2 := Hd (Ai (H1.out.1.later hb) (Ai hgW (HX.out.2.2.2.later hgW)))
 clear HC hg hgW hb c0 c1
 replace HBq := Hd (boxw_grown HBq.out HG2.out (by omega))
 by_cases gs : shapeL rest = sCon
 ·rw [decide_eq_true gs]
  obtain ⟨y, r, rfl⟩ := take_of gs (by decide)
  have hp := HP.out
  rw [if_pos gs, show takeO last (y :: r) = .ok y y.2 r from rfl, bind_ok] at hp
  have HQ := Hd hp
  clear hp gs HP
  have HP := HQ
  clear HQ
  simp only [List.length_cons] at hn hL
  have hf1 := fun W => tok_field1 y.1.k (tx y.1.t) y.1.f y.1.x y.2 W
  have HC := Hd (take_any b me ma last y r d w2 H2.out.1)
  go_wp2_with fail
  refine HC.out.mono ?_
  rintro e w3 ⟨rfl, hR, hg⟩
  have hgW := Gt H2.out.2.1 hg
  have HG3 := Hd hg
  have hsz3 : w2.heap.size ≤ w3.heap.size := hg.size
  have H3 := Hd (Ai hR (Ai hgW (HX.out.2.2.2.later hgW)))
  clear HC hR hgW hg
  replace HBq := Hd (boxw_grown HBq.out HG3.out (by omega))
  obtain ⟨q0, q1, q2, q3, q4, q5, q6, q7, q8, q9, q10, q11, q12⟩ := (HBq.out).q13
  obtain ⟨z0, z1, z2, z3, z4, z5, z6, z7, z8, z9, z10, z11, z12⟩ := (HBq.out).z13
  go_upto_region 5 with fail
  obtain ⟨w4, hq⟩ : ∃ q, q = (((((((((((((w3.setCell ⟨W.heap.size, 0, none⟩ (.int .i64 0)).setCell ⟨W.heap.size, 1, none⟩ (.string (tx y.1.t))).setCell ⟨W.heap.size, 2, none⟩ (.bool false)).setCell ⟨W.heap.size, 3, none⟩ (.int .u64 0)).setCell ⟨W.heap.size, 4, none⟩ (.slice none 0 0)).setCell ⟨W.heap.size, 5, none⟩ (.int .i64 0)).setCell ⟨W.heap.size, 6, none⟩ (.string ⟨#[]⟩)).setCell ⟨W.heap.size, 7, none⟩ (.bool false)).setCell ⟨W.heap.size, 8, none⟩ (.int .u64 0)).setCell ⟨W.heap.size, 9, none⟩ (.slice none 0 0)).setCell ⟨W.heap.size, 10, none⟩ (.slice none 0 0)).setCell ⟨W.heap.size, 11, none⟩ (.slice none 0 0)).setCell ⟨W.heap.size, 12, none⟩ (.slice none 0 0)) := ⟨_, rfl⟩
  have HBn := Hd (show BoxW w4 W.heap.size [.int .i64 0, .string (tx y.1.t), .bool false, .int .u64 0, .slice none 0 0, .int .i64 0, .string ⟨#[]⟩, .bool false, .int .u64 0, .slice none 0 0, .slice none 0 0, .slice none 0 0, .slice none 0 0] by subst hq; exact ((HBq.out)).b13)
  have hgW : W.grownBy w4 (some b) := by subst hq; exact (gn13 H3.out.2.1 (show W.heap.size ≤ W.heap.size by omega))
  have hR : Rdr w4 b me ma (y.2) (r) d := by subst hq; exact (H3.out.1).o13 (show b < W.heap.size by omega)
  have HK4 := Hd (show ∀ lo hi, W.heap.size < lo → Kp lo hi w3 w4 by subst hq; exact fun lo hi h => ((Kp.s13 (Or.inl h))))
  have hsz4 : w3.heap.size ≤ w4.heap.size := by subst hq; simp
  clear q0 z0 q1 z1 q2 z2 q3 z3 q4 z4 q5 z5 q6 z6 q7 z7 q8 z8 q9 z9 q10 z10 q11 z11 q12 z12
  have H4 := Hd (Ai hR (Ai hgW (HX.out.2.2.2.later hgW)))
  clear hR hgW
  rw [← hq]
  clear hq
  clear HBq
  have HBq := HBn
  clear HBn
  clear hf1
  have HC := Hd (names_any b me ma y.2 r d (by omega) w4 H4.out.2.2.env H4.out.1)
  go_wp2_with fail
  refine HC.out.mono ?_
  rintro e w5 ⟨v, rfl, hR, hg, hown⟩
  obtain ⟨aN, cN, rfl, -⟩ := own_shape hown
  have hlr1 := names_less r y.2 []
  have HTN := Hd hown
  have hgW := Gt H4.out.2.1 hg
  have HG5 := Hd hg
  have hsz5 : w4.heap.size ≤ w5.heap.size := hg.size
  have H5 := Hd (Ai hR (Ai hgW (HX.out.2.2.2.later hgW)))
  clear HC hg hgW hR hown
  replace HBq := Hd (boxw_grown HBq.out HG5.out (by omega))
  have q4 : w5.cell? ⟨W.heap.size, 4, none⟩ = some _ := HBq.out.1 4 _ rfl
  have z4 : w5.frozen? ⟨W.heap.size, 4, none⟩ = false := HBq.out.2 4
  go_upto_region 8 with fail
  have HBn := Hd (show BoxW (w5.setCell ⟨W.heap.size, 4, none⟩ (.slice aN (namesO y.2 r []).1.length cN)) W.heap.size [.int .i64 0, .string (tx y.1.t), .bool false, .int .u64 0, .slice aN (namesO y.2 r []).1.length cN, .int .i64 0, .string ⟨#[]⟩, .bool false, .int .u64 0, .slice none 0 0, .slice none 0 0, .slice none 0 0, .slice none 0 0] from (HBq.out).set 4 (show 4 < 13 by decide) (.slice aN (namesO y.2 r []).1.length cN))
  have hgW : W.grownBy (w5.setCell ⟨W.heap.size, 4, none⟩ (.slice aN (namesO y.2 r []).1.length cN)) (some b) := (grown_new H5.out.2.1 (show W.heap.size ≤ W.heap.size by omega) _)
  have hR : Rdr (w5.setCell ⟨W.heap.size, 4, none⟩ (.slice aN (namesO y.2 r []).1.length cN)) b me ma ((namesO y.2 r []).2.1) ((namesO y.2 r []).2.2) d := (H5.out.1).over (show b < W.heap.size by omega) _
  have HK6 := Hd (show ∀ lo hi, W.heap.size < lo → Kp lo hi w5 (w5.setCell ⟨W.heap.size, 4, none⟩ (.slice aN (namesO y.2 r []).1.length cN)) from fun lo hi h => (Kp.set _ _ _ _ (Or.inl h)))
  have hsz6 : w5.heap.size ≤ (w5.setCell ⟨W.heap.size, 4, none⟩ (.slice aN (namesO y.2 r []).1.length cN)).heap.size := by simp
  clear q4 z4
  have H6 := Hd (Ai hR (Ai hgW (HX.out.2.2.2.later hgW)))
  clear hR hgW
  generalize (w5.setCell ⟨W.heap.size, 4, none⟩ (.slice aN (namesO y.2 r []).1.length cN)) = w6 at *
  clear HBq
  have HBq := HBn
  clear HBn
  have c0 := H6.out.2.2.env.arrow.1.1
  have c1 := H6.out.2.2.env.arrow.1.2
  have HC := Hd (want_any b me ma (namesO y.2 r []).2.1 (namesO y.2 r []).2.2 d sArrow (by decide) w6 H6.out.1)
  go_wp2_with fail
  refine HC.out.mono ?_
  rintro e w7 h
  cases ho : wantO sArrow (namesO y.2 r []).2.1 (namesO y.2 r []).2.2 with
  | bad er ln =>
   rw [ho] at h
   obtain ⟨hbr, hg⟩ := h
   have hp := HP.out
   rw [ho, bind_bad] at hp
   have HB := Hd (Ai hp (Gt (Gt (grown_of (b := b) HX.out.1) H6.out.2.1) hg))
   unfold Broken at hbr
   subst hbr
   clear hg ho hp HC c0 c1
   go_wp2_with fail
   refine ⟨rfl, ?_⟩
   rw [HB.out.1]
   exact ⟨rfl, HB.out.2⟩
  | ok y2 l2 r2 =>
   rw [ho] at h
   obtain ⟨rfl, hR, hg⟩ := h
   have hlr2 := congrArg List.length (wantO_less (by decide) ho)
   simp only [List.length_cons] at hlr2
   have hp := HP.out
   rw [ho, bind_ok] at hp
   have HQ := Hd hp
   have hgW := Gt H6.out.2.1 hg
   have HG7 := Hd hg
   have hsz7 : w6.heap.size ≤ w7.heap.size := hg.size
   have H7 := Hd (Ai hR (Ai hgW (HX.out.2.2.2.later hgW)))
   clear hp ho HP HC hg hgW hR c0 c1
   have HP := HQ
   clear HQ
   replace HBq := Hd (boxw_grown HBq.out HG7.out (by omega))
   have HC := Hd (hEx l2 r2 w7 (by omega) (by omega) H7.out.2.2 H7.out.1)
   go_wp2_with fail
   refine HC.out.mono ?_
   rintro e w8 h
   cases ho : exprO n d l2 r2 with
   | bad er ln =>
    rw [ho] at h
    obtain ⟨hbr, hg⟩ := h
    have hp := HP.out
    rw [ho, bind_bad] at hp
    have HB := Hd (Ai hp (Gt (Gt (grown_of (b := b) HX.out.1) H7.out.2.1) hg))
    unfold Broken at hbr
    subst hbr
    clear hg ho hp HC 
    go_wp2_with fail
    refine ⟨rfl, ?_⟩
    rw [HB.out.1]
    exact ⟨rfl, HB.out.2⟩
   | ok x l3 r3 =>
    rw [ho] at h
    have hlr3 : r3.length ≤ r2.length := by have h := expr_shrinks n d l2 r2; rw [ho] at h; exact h
    obtain ⟨⟨k3, nm3, f3, u3, vp, vk, vb, va, rfl, hat⟩, hR, hg⟩ := h
    obtain ⟨⟨ap3, np3, cp3, rfl⟩, ⟨ak3, nk3, ck3, rfl⟩, ⟨ab3, nb3, cb3, rfl⟩, ⟨aa3, na3, ca3, rfl⟩⟩ := hat.slices
    have HT3 := Hd hat
    clear hat
    have hp := HP.out
    rw [ho, bind_ok] at hp
    have HQ := Hd hp
    have hgW := Gt H7.out.2.1 hg
    have HG8 := Hd hg
    have hsz8 : w7.heap.size ≤ w8.heap.size := hg.size
    have H8 := Hd (Ai hR (Ai hgW (HX.out.2.2.2.later hgW)))
    clear hp ho HP HC hg hgW hR 
    have HP := HQ
    clear HQ
    replace HBq := Hd (boxw_grown HBq.out HG8.out (by omega))
    have q5 : w8.cell? ⟨W.heap.size, 5, none⟩ = some _ := HBq.out.1 5 _ rfl
    have z5 : w8.frozen? ⟨W.heap.size, 5, none⟩ = false := HBq.out.2 5
    have q6 : w8.cell? ⟨W.heap.size, 6, none⟩ = some _ := HBq.out.1 6 _ rfl
    have z6 : w8.frozen? ⟨W.heap.size, 6, none⟩ = false := HBq.out.2 6
    have q7 : w8.cell? ⟨W.heap.size, 7, none⟩ = some _ := HBq.out.1 7 _ rfl
    have z7 : w8.frozen? ⟨W.heap.size, 7, none⟩ = false := HBq.out.2 7
    have q8 : w8.cell? ⟨W.heap.size, 8, none⟩ = some _ := HBq.out.1 8 _ rfl
    have z8 : w8.frozen? ⟨W.heap.size, 8, none⟩ = false := HBq.out.2 8
    have q9 : w8.cell? ⟨W.heap.size, 9, none⟩ = some _ := HBq.out.1 9 _ rfl
    have z9 : w8.frozen? ⟨W.heap.size, 9, none⟩ = false := HBq.out.2 9
    have q10 : w8.cell? ⟨W.heap.size, 10, none⟩ = some _ := HBq.out.1 10 _ rfl
    have z10 : w8.frozen? ⟨W.heap.size, 10, none⟩ = false := HBq.out.2 10
    have q11 : w8.cell? ⟨W.heap.size, 11, none⟩ = some _ := HBq.out.1 11 _ rfl
    have z11 : w8.frozen? ⟨W.heap.size, 11, none⟩ = false := HBq.out.2 11
    have q12 : w8.cell? ⟨W.heap.size, 12, none⟩ = some _ := HBq.out.1 12 _ rfl
    have z12 : w8.frozen? ⟨W.heap.size, 12, none⟩ = false := HBq.out.2 12
    go_upto_region 10 with fail
    obtain ⟨w9, hq⟩ : ∃ q, q = ((((((((w8.setCell ⟨W.heap.size, 5, none⟩ (.int .i64 k3)).setCell ⟨W.heap.size, 6, none⟩ (.string nm3)).setCell ⟨W.heap.size, 7, none⟩ (.bool f3)).setCell ⟨W.heap.size, 8, none⟩ (.int .u64 u3)).setCell ⟨W.heap.size, 9, none⟩ (.slice ap3 np3 cp3)).setCell ⟨W.heap.size, 10, none⟩ (.slice ak3 nk3 ck3)).setCell ⟨W.heap.size, 11, none⟩ (.slice ab3 nb3 cb3)).setCell ⟨W.heap.size, 12, none⟩ (.slice aa3 na3 ca3)) := ⟨_, rfl⟩
    have HBn := Hd (show BoxW w9 W.heap.size [.int .i64 0, .string (tx y.1.t), .bool false, .int .u64 0, .slice aN (namesO y.2 r []).1.length cN, .int .i64 k3, .string nm3, .bool f3, .int .u64 u3, .slice ap3 np3 cp3, .slice ak3 nk3 ck3, .slice ab3 nb3 cb3, .slice aa3 na3 ca3] by subst hq; exact ((HBq.out)).b13_5_8)
    have hgW : W.grownBy w9 (some b) := by subst hq; exact (gn8 H8.out.2.1 (show W.heap.size ≤ W.heap.size by omega))
    have hR : Rdr w9 b me ma (l3) (r3) d := by subst hq; exact (H8.out.1).o8 (show b < W.heap.size by omega)
    have HK9 := Hd (show ∀ lo hi, W.heap.size < lo → Kp lo hi w8 w9 by subst hq; exact fun lo hi h => ((Kp.s8 (Or.inl h))))
    have hsz9 : w8.heap.size ≤ w9.heap.size := by subst hq; simp
    clear q5 z5 q6 z6 q7 z7 q8 z8 q9 z9 q10 z10 q11 z11 q12 z12
    have H9 := Hd (Ai hR (Ai hgW (HX.out.2.2.2.later hgW)))
    clear hR hgW
    rw [← hq]
    clear hq
    clear HBq
    have HBq := HBn
    clear HBn
    have hBp : BoxW w9 w.heap.size [.int .i64 0, .string ⟨#[]⟩, .bool false, .int .u64 0, .slice none 0 0, .int .i64 0, .string ⟨#[]⟩, .bool false, .int .u64 0, .slice none 0 0, .slice none 0 0, .slice none 0 0, .slice none 0 0] := boxw_grown HX.out.2.2.1 H9.out.2.1 (by omega)
    obtain ⟨d0, d1, d2, d3, d4, d5, d6, d7, d8, d9, d10, d11, d12⟩ := (hBp).q13
    obtain ⟨z0, z1, z2, z3, z4, z5, z6, z7, z8, z9, z10, z11, z12⟩ := (hBp).z13
    obtain ⟨q0, q1, q2, q3, q4, q5, q6, q7, q8, q9, q10, q11, q12⟩ := (HBq.out).q13
    have HBp := Hd hBp
    clear hBp
    go_wp2_with fail
    have hF := ((HBp.out)).b13v (.int .i64 0) (.string (tx y.1.t)) (.bool false) (.int .u64 0) (.slice aN (namesO y.2 r []).1.length cN) (.int .i64 k3) (.string nm3) (.bool f3) (.int .u64 u3) (.slice ap3 np3 cp3) (.slice ak3 nk3 ck3) (.slice ab3 nb3 cb3) (.slice aa3 na3 ca3)
    have v0 := hF.1 0 _ rfl
    have v1 := hF.1 1 _ rfl
    have v2 := hF.1 2 _ rfl
    have v3 := hF.1 3 _ rfl
    have v4 := hF.1 4 _ rfl
    have v5 := hF.1 5 _ rfl
    have v6 := hF.1 6 _ rfl
    have v7 := hF.1 7 _ rfl
    have v8 := hF.1 8 _ rfl
    have v9 := hF.1 9 _ rfl
    have v10 := hF.1 10 _ rfl
    have v11 := hF.1 11 _ rfl
    have v12 := hF.1 12 _ rfl
    refine bodyPost_ret (v := .agg #[.int .i64 0, .string (tx y.1.t), .bool false, .int .u64 0, .slice aN (namesO y.2 r []).1.length cN, .int .i64 k3, .string nm3, .bool f3, .int .u64 u3, .slice ap3 np3 cp3, .slice ak3 nk3 ck3, .slice ab3 nb3 cb3, .slice aa3 na3 ca3]) (by simp [results, Tryz.results125, go_sem, v0, v1, v2, v3, v4, v5, v6, v7, v8, v9, v10, v11, v12]) rfl ?_
    rw [HP.out]
    refine ⟨⟨_, _, _, _, _, _, _, _, _, rfl, ?_, ?_⟩, (((((((((((((H9.out.1).over hlt _).over hlt _).over hlt _).over hlt _).over hlt _).over hlt _).over hlt _).over hlt _).over hlt _).over hlt _).over hlt _).over hlt _).over hlt _, (grown_new (grown_new (grown_new (grown_new (grown_new (grown_new (grown_new (grown_new (grown_new (grown_new (grown_new (grown_new (grown_new (Gt (grown_of (b := b) HX.out.1) H9.out.2.1) Nr _) Nr _) Nr _) Nr _) Nr _) Nr _) Nr _) Nr _) Nr _) Nr _) Nr _) Nr _) Nr _)⟩
    ·exact (RowAt.own HTN.out).kp ((((((((HK6.out _ _ (by omega)).trans (Kp.grown HG7.out (by omega) (by omega)))).trans (Kp.grown HG8.out (by omega) (by omega)))).trans (HK9.out _ _ (by omega)))).trans ((Kp.s13 (Or.inl (by omega))))) (lo' := w.heap.size) (by omega)
    ·exact HT3.out.kp ((HK9.out _ _ (by omega)).trans ((Kp.s13 (Or.inl (by omega))))) (by omega)
 ·rw [decide_eq_false gs]
  have hp := HP.out
  rw [if_neg gs] at hp
  have HQ := Hd hp
  clear hp gs HP
  have HP := HQ
  clear HQ
  have c0 := H2.out.2.2.env.num.1.1
  have c1 := H2.out.2.2.env.num.1.2
  have HC := Hd (isAhead_any b me ma last rest d sNum w2 H2.out.1)
  go_wp2_with fail
  refine HC.out.mono ?_
  rintro e w3 ⟨rfl, hb⟩
  have hg := grown_of (b := b) hb
  have hgW := Gt H2.out.2.1 hg
  have HG3 := Hd hg
  have hsz3 : w2.heap.size ≤ w3.heap.size := hg.size
  have H3 := Hd (Ai (H2.out.1.later hb) (Ai hgW (HX.out.2.2.2.later hgW)))
  clear HC hg hgW hb c0 c1
  replace HBq := Hd (boxw_grown HBq.out HG3.out (by omega))
  by_cases gs : shapeL rest = sNum
  ·rw [decide_eq_true gs]
   obtain ⟨y, r, rfl⟩ := take_of gs (by decide)
   have hp := HP.out
   rw [if_pos gs, show takeO last (y :: r) = .ok y y.2 r from rfl, bind_ok] at hp
   have HQ := Hd hp
   clear hp gs HP
   have HP := HQ
   clear HQ
   simp only [List.length_cons] at hn hL
   have hf2 := fun W => tok_field2 y.1.k (tx y.1.t) y.1.f y.1.x y.2 W
   have HC := Hd (take_any b me ma last y r d w3 H3.out.1)
   go_wp2_with fail
   refine HC.out.mono ?_
   rintro e w4 ⟨rfl, hR, hg⟩
   have hgW := Gt H3.out.2.1 hg
   have HG4 := Hd hg
   have hsz4 : w3.heap.size ≤ w4.heap.size := hg.size
   have H4 := Hd (Ai hR (Ai hgW (HX.out.2.2.2.later hgW)))
   clear HC hR hgW hg
   replace HBq := Hd (boxw_grown HBq.out HG4.out (by omega))
   obtain ⟨q0, q1, q2, q3, q4, q5, q6, q7, q8, q9, q10, q11, q12⟩ := (HBq.out).q13
   obtain ⟨z0, z1, z2, z3, z4, z5, z6, z7, z8, z9, z10, z11, z12⟩ := (HBq.out).z13
   go_upto_region 8 with fail
   obtain ⟨w5, hq⟩ : ∃ q, q = (((((((((((((w4.setCell ⟨W.heap.size, 0, none⟩ (.int .i64 1)).setCell ⟨W.heap.size, 1, none⟩ (.string ⟨#[]⟩)).setCell ⟨W.heap.size, 2, none⟩ (.bool y.1.f)).setCell ⟨W.heap.size, 3, none⟩ (.int .u64 y.1.x)).setCell ⟨W.heap.size, 4, none⟩ (.slice none 0 0)).setCell ⟨W.heap.size, 5, none⟩ (.int .i64 0)).setCell ⟨W.heap.size, 6, none⟩ (.string ⟨#[]⟩)).setCell ⟨W.heap.size, 7, none⟩ (.bool false)).setCell ⟨W.heap.size, 8, none⟩ (.int .u64 0)).setCell ⟨W.heap.size, 9, none⟩ (.slice none 0 0)).setCell ⟨W.heap.size, 10, none⟩ (.slice none 0 0)).setCell ⟨W.heap.size, 11, none⟩ (.slice none 0 0)).setCell ⟨W.heap.size, 12, none⟩ (.slice none 0 0)) := ⟨_, rfl⟩
   have HBn := Hd (show BoxW w5 W.heap.size [.int .i64 1, .string ⟨#[]⟩, .bool y.1.f, .int .u64 y.1.x, .slice none 0 0, .int .i64 0, .string ⟨#[]⟩, .bool false, .int .u64 0, .slice none 0 0, .slice none 0 0, .slice none 0 0, .slice none 0 0] by subst hq; exact ((HBq.out)).b13)
   have hgW : W.grownBy w5 (some b) := by subst hq; exact (gn13 H4.out.2.1 (show W.heap.size ≤ W.heap.size by omega))
   have hR : Rdr w5 b me ma (y.2) (r) d := by subst hq; exact (H4.out.1).o13 (show b < W.heap.size by omega)
   have HK5 := Hd (show ∀ lo hi, W.heap.size < lo → Kp lo hi w4 w5 by subst hq; exact fun lo hi h => ((Kp.s13 (Or.inl h))))
   have hsz5 : w4.heap.size ≤ w5.heap.size := by subst hq; simp
   clear q0 z0 q1 z1 q2 z2 q3 z3 q4 z4 q5 z5 q6 z6 q7 z7 q8 z8 q9 z9 q10 z10 q11 z11 q12 z12
   have H5 := Hd (Ai hR (Ai hgW (HX.out.2.2.2.later hgW)))
   clear hR hgW
   rw [← hq]
   clear hq
   clear HBq
   have HBq := HBn
   clear HBn
   clear hf2
   have c0 := H5.out.2.2.env.arrow.1.1
   have c1 := H5.out.2.2.env.arrow.1.2
   have HC := Hd (want_any b me ma y.2 r d sArrow (by decide) w5 H5.out.1)
   go_wp2_with fail
   refine HC.out.mono ?_
   rintro e w6 h
   cases ho : wantO sArrow y.2 r with
   | bad er ln =>
    rw [ho] at h
    obtain ⟨hbr, hg⟩ := h
    have hp := HP.out
    rw [ho, bind_bad] at hp
    have HB := Hd (Ai hp (Gt (Gt (grown_of (b := b) HX.out.1) H5.out.2.1) hg))
    unfold Broken at hbr
    subst hbr
    clear hg ho hp HC c0 c1
    go_wp2_with fail
    refine ⟨rfl, ?_⟩
    rw [HB.out.1]
    exact ⟨rfl, HB.out.2⟩
   | ok y2 l2 r2 =>
    rw [ho] at h
    obtain ⟨rfl, hR, hg⟩ := h
    have hlr2 := congrArg List.length (wantO_less (by decide) ho)
    simp only [List.length_cons] at hlr2
    have hp := HP.out
    rw [ho, bind_ok] at hp
    have HQ := Hd hp
    have hgW := Gt H5.out.2.1 hg
    have HG6 := Hd hg
    have hsz6 : w5.heap.size ≤ w6.heap.size := hg.size
    have H6 := Hd (Ai hR (Ai hgW (HX.out.2.2.2.later hgW)))
    clear hp ho HP HC hg hgW hR c0 c1
    have HP := HQ
    clear HQ
    replace HBq := Hd (boxw_grown HBq.out HG6.out (by omega))
    have HC := Hd (hEx l2 r2 w6 (by omega) (by omega) H6.out.2.2 H6.out.1)
    go_wp2_with fail
    refine HC.out.mono ?_
    rintro e w7 h
    cases ho : exprO n d l2 r2 with
    | bad er ln =>
     rw [ho] at h
     obtain ⟨hbr, hg⟩ := h
     have hp := HP.out
     rw [ho, bind_bad] at hp
     have HB := Hd (Ai hp (Gt (Gt (grown_of (b := b) HX.out.1) H6.out.2.1) hg))
     unfold Broken at hbr
     subst hbr
     clear hg ho hp HC 
     go_wp2_with fail
     refine ⟨rfl, ?_⟩
     rw [HB.out.1]
     exact ⟨rfl, HB.out.2⟩
    | ok x l3 r3 =>
     rw [ho] at h
     have hlr3 : r3.length ≤ r2.length := by have h := expr_shrinks n d l2 r2; rw [ho] at h; exact h
     obtain ⟨⟨k3, nm3, f3, u3, vp, vk, vb, va, rfl, hat⟩, hR, hg⟩ := h
     obtain ⟨⟨ap3, np3, cp3, rfl⟩, ⟨ak3, nk3, ck3, rfl⟩, ⟨ab3, nb3, cb3, rfl⟩, ⟨aa3, na3, ca3, rfl⟩⟩ := hat.slices
     have HT3 := Hd hat
     clear hat
     have hp := HP.out
     rw [ho, bind_ok] at hp
     have HQ := Hd hp
     have hgW := Gt H6.out.2.1 hg
     have HG7 := Hd hg
     have hsz7 : w6.heap.size ≤ w7.heap.size := hg.size
     have H7 := Hd (Ai hR (Ai hgW (HX.out.2.2.2.later hgW)))
     clear hp ho HP HC hg hgW hR 
     have HP := HQ
     clear HQ
     replace HBq := Hd (boxw_grown HBq.out HG7.out (by omega))
     have q5 : w7.cell? ⟨W.heap.size, 5, none⟩ = some _ := HBq.out.1 5 _ rfl
     have z5 : w7.frozen? ⟨W.heap.size, 5, none⟩ = false := HBq.out.2 5
     have q6 : w7.cell? ⟨W.heap.size, 6, none⟩ = some _ := HBq.out.1 6 _ rfl
     have z6 : w7.frozen? ⟨W.heap.size, 6, none⟩ = false := HBq.out.2 6
     have q7 : w7.cell? ⟨W.heap.size, 7, none⟩ = some _ := HBq.out.1 7 _ rfl
     have z7 : w7.frozen? ⟨W.heap.size, 7, none⟩ = false := HBq.out.2 7
     have q8 : w7.cell? ⟨W.heap.size, 8, none⟩ = some _ := HBq.out.1 8 _ rfl
     have z8 : w7.frozen? ⟨W.heap.size, 8, none⟩ = false := HBq.out.2 8
     have q9 : w7.cell? ⟨W.heap.size, 9, none⟩ = some _ := HBq.out.1 9 _ rfl
     have z9 : w7.frozen? ⟨W.heap.size, 9, none⟩ = false := HBq.out.2 9
     have q10 : w7.cell? ⟨W.heap.size, 10, none⟩ = some _ := HBq.out.1 10 _ rfl
     have z10 : w7.frozen? ⟨W.heap.size, 10, none⟩ = false := HBq.out.2 10
     have q11 : w7.cell? ⟨W.heap.size, 11, none⟩ = some _ := HBq.out.1 11 _ rfl
     have z11 : w7.frozen? ⟨W.heap.size, 11, none⟩ = false := HBq.out.2 11
     have q12 : w7.cell? ⟨W.heap.size, 12, none⟩ = some _ := HBq.out.1 12 _ rfl
     have z12 : w7.frozen? ⟨W.heap.size, 12, none⟩ = false := HBq.out.2 12
     go_upto_region 10 with fail
     obtain ⟨w8, hq⟩ : ∃ q, q = ((((((((w7.setCell ⟨W.heap.size, 5, none⟩ (.int .i64 k3)).setCell ⟨W.heap.size, 6, none⟩ (.string nm3)).setCell ⟨W.heap.size, 7, none⟩ (.bool f3)).setCell ⟨W.heap.size, 8, none⟩ (.int .u64 u3)).setCell ⟨W.heap.size, 9, none⟩ (.slice ap3 np3 cp3)).setCell ⟨W.heap.size, 10, none⟩ (.slice ak3 nk3 ck3)).setCell ⟨W.heap.size, 11, none⟩ (.slice ab3 nb3 cb3)).setCell ⟨W.heap.size, 12, none⟩ (.slice aa3 na3 ca3)) := ⟨_, rfl⟩
     have HBn := Hd (show BoxW w8 W.heap.size [.int .i64 1, .string ⟨#[]⟩, .bool y.1.f, .int .u64 y.1.x, .slice none 0 0, .int .i64 k3, .string nm3, .bool f3, .int .u64 u3, .slice ap3 np3 cp3, .slice ak3 nk3 ck3, .slice ab3 nb3 cb3, .slice aa3 na3 ca3] by subst hq; exact ((HBq.out)).b13_5_8)
     have hgW : W.grownBy w8 (some b) := by subst hq; exact (gn8 H7.out.2.1 (show W.heap.size ≤ W.heap.size by omega))
     have hR : Rdr w8 b me ma (l3) (r3) d := by subst hq; exact (H7.out.1).o8 (show b < W.heap.size by omega)
     have HK8 := Hd (show ∀ lo hi, W.heap.size < lo → Kp lo hi w7 w8 by subst hq; exact fun lo hi h => ((Kp.s8 (Or.inl h))))
     have hsz8 : w7.heap.size ≤ w8.heap.size := by subst hq; simp
     clear q5 z5 q6 z6 q7 z7 q8 z8 q9 z9 q10 z10 q11 z11 q12 z12
     have H8 := Hd (Ai hR (Ai hgW (HX.out.2.2.2.later hgW)))
     clear hR hgW
     rw [← hq]
     clear hq
     clear HBq
     have HBq := HBn
     clear HBn
     have hBp : BoxW w8 w.heap.size [.int .i64 0, .string ⟨#[]⟩, .bool false, .int .u64 0, .slice none 0 0, .int .i64 0, .string ⟨#[]⟩, .bool false, .int .u64 0, .slice none 0 0, .slice none 0 0, .slice none 0 0, .slice none 0 0] := boxw_grown HX.out.2.2.1 H8.out.2.1 (by omega)
     obtain ⟨d0, d1, d2, d3, d4, d5, d6, d7, d8, d9, d10, d11, d12⟩ := (hBp).q13
     obtain ⟨z0, z1, z2, z3, z4, z5, z6, z7, z8, z9, z10, z11, z12⟩ := (hBp).z13
     obtain ⟨q0, q1, q2, q3, q4, q5, q6, q7, q8, q9, q10, q11, q12⟩ := (HBq.out).q13
     have HBp := Hd hBp
     clear hBp
     go_wp2_with fail
     have hF := ((HBp.out)).b13v (.int .i64 1) (.string ⟨#[]⟩) (.bool y.1.f) (.int .u64 y.1.x) (.slice none 0 0) (.int .i64 k3) (.string nm3) (.bool f3) (.int .u64 u3) (.slice ap3 np3 cp3) (.slice ak3 nk3 ck3) (.slice ab3 nb3 cb3) (.slice aa3 na3 ca3)
     have v0 := hF.1 0 _ rfl
     have v1 := hF.1 1 _ rfl
     have v2 := hF.1 2 _ rfl
     have v3 := hF.1 3 _ rfl
     have v4 := hF.1 4 _ rfl
     have v5 := hF.1 5 _ rfl
     have v6 := hF.1 6 _ rfl
     have v7 := hF.1 7 _ rfl
     have v8 := hF.1 8 _ rfl
     have v9 := hF.1 9 _ rfl
     have v10 := hF.1 10 _ rfl
     have v11 := hF.1 11 _ rfl
     have v12 := hF.1 12 _ rfl
     refine bodyPost_ret (v := .agg #[.int .i64 1, .string ⟨#[]⟩, .bool y.1.f, .int .u64 y.1.x, .slice none 0 0, .int .i64 k3, .string nm3, .bool f3, .int .u64 u3, .slice ap3 np3 cp3, .slice ak3 nk3 ck3, .slice ab3 nb3 cb3, .slice aa3 na3 ca3]) (by simp [results, Tryz.results125, go_sem, v0, v1, v2, v3, v4, v5, v6, v7, v8, v9, v10, v11, v12]) rfl ?_
     rw [HP.out]
     refine ⟨⟨_, _, _, _, _, _, _, _, _, rfl, ?_, ?_⟩, (((((((((((((H8.out.1).over hlt _).over hlt _).over hlt _).over hlt _).over hlt _).over hlt _).over hlt _).over hlt _).over hlt _).over hlt _).over hlt _).over hlt _).over hlt _, (grown_new (grown_new (grown_new (grown_new (grown_new (grown_new (grown_new (grown_new (grown_new (grown_new (grown_new (grown_new (grown_new (Gt (grown_of (b := b) HX.out.1) H8.out.2.1) Nr _) Nr _) Nr _) Nr _) Nr _) Nr _) Nr _) Nr _) Nr _) Nr _) Nr _) Nr _) Nr _)⟩
     ·exact RowAt.nil _ _ _ _
     ·exact HT3.out.kp ((HK8.out _ _ (by omega)).trans ((Kp.s13 (Or.inl (by omega))))) (by omega)
  ·rw [decide_eq_false gs]
   have hp := HP.out
   rw [if_neg gs] at hp
   have HQ := Hd hp
   clear hp gs HP
   have HP := HQ
   clear HQ
   have c0 := H3.out.2.2.env.name.1.1
   have c1 := H3.out.2.2.env.name.1.2
   have HC := Hd (want_any b me ma last rest d sName (by decide) w3 H3.out.1)
   go_wp2_with fail
   refine HC.out.mono ?_
   rintro e w4 h
   cases ho : wantO sName last rest with
   | bad er ln =>
    rw [ho] at h
    obtain ⟨hbr, hg⟩ := h
    have hp := HP.out
    rw [ho, bind_bad] at hp
    have HB := Hd (Ai hp (Gt (Gt (grown_of (b := b) HX.out.1) H3.out.2.1) hg))
    unfold Broken at hbr
    subst hbr
    clear hg ho hp HC c0 c1
    go_wp2_with fail
    refine ⟨rfl, ?_⟩
    rw [HB.out.1]
    exact ⟨rfl, HB.out.2⟩
   | ok y l r =>
    rw [ho] at h
    obtain ⟨rfl, hR, hg⟩ := h
    have hlr := congrArg List.length (wantO_less (by decide) ho)
    simp only [List.length_cons] at hlr
    have hp := HP.out
    rw [ho, bind_ok] at hp
    have HQ := Hd hp
    have hgW := Gt H3.out.2.1 hg
    have HG4 := Hd hg
    have hsz4 : w3.heap.size ≤ w4.heap.size := hg.size
    have H4 := Hd (Ai hR (Ai hgW (HX.out.2.2.2.later hgW)))
    clear hp ho HP HC hg hgW hR c0 c1
    have HP := HQ
    clear HQ
    replace HBq := Hd (boxw_grown HBq.out HG4.out (by omega))
    have hf1 := fun W => tok_field1 y.1.k (tx y.1.t) y.1.f y.1.x y.2 W
    obtain ⟨q0, q1, q2, q3, q4, q5, q6, q7, q8, q9, q10, q11, q12⟩ := (HBq.out).q13
    obtain ⟨z0, z1, z2, z3, z4, z5, z6, z7, z8, z9, z10, z11, z12⟩ := (HBq.out).z13
    go_upto_region 8 with fail
    obtain ⟨w5, hq⟩ : ∃ q, q = (((((((((((((w4.setCell ⟨W.heap.size, 0, none⟩ (.int .i64 2)).setCell ⟨W.heap.size, 1, none⟩ (.string (tx y.1.t))).setCell ⟨W.heap.size, 2, none⟩ (.bool false)).setCell ⟨W.heap.size, 3, none⟩ (.int .u64 0)).setCell ⟨W.heap.size, 4, none⟩ (.slice none 0 0)).setCell ⟨W.heap.size, 5, none⟩ (.int .i64 0)).setCell ⟨W.heap.size, 6, none⟩ (.string ⟨#[]⟩)).setCell ⟨W.heap.size, 7, none⟩ (.bool false)).setCell ⟨W.heap.size, 8, none⟩ (.int .u64 0)).setCell ⟨W.heap.size, 9, none⟩ (.slice none 0 0)).setCell ⟨W.heap.size, 10, none⟩ (.slice none 0 0)).setCell ⟨W.heap.size, 11, none⟩ (.slice none 0 0)).setCell ⟨W.heap.size, 12, none⟩ (.slice none 0 0)) := ⟨_, rfl⟩
    have HBn := Hd (show BoxW w5 W.heap.size [.int .i64 2, .string (tx y.1.t), .bool false, .int .u64 0, .slice none 0 0, .int .i64 0, .string ⟨#[]⟩, .bool false, .int .u64 0, .slice none 0 0, .slice none 0 0, .slice none 0 0, .slice none 0 0] by subst hq; exact ((HBq.out)).b13)
    have hgW : W.grownBy w5 (some b) := by subst hq; exact (gn13 H4.out.2.1 (show W.heap.size ≤ W.heap.size by omega))
    have hR : Rdr w5 b me ma (l) (r) d := by subst hq; exact (H4.out.1).o13 (show b < W.heap.size by omega)
    have HK5 := Hd (show ∀ lo hi, W.heap.size < lo → Kp lo hi w4 w5 by subst hq; exact fun lo hi h => ((Kp.s13 (Or.inl h))))
    have hsz5 : w4.heap.size ≤ w5.heap.size := by subst hq; simp
    clear q0 z0 q1 z1 q2 z2 q3 z3 q4 z4 q5 z5 q6 z6 q7 z7 q8 z8 q9 z9 q10 z10 q11 z11 q12 z12
    have H5 := Hd (Ai hR (Ai hgW (HX.out.2.2.2.later hgW)))
    clear hR hgW
    rw [← hq]
    clear hq
    clear HBq
    have HBq := HBn
    clear HBn
    clear hf1
    have c0 := H5.out.2.2.env.arrow.1.1
    have c1 := H5.out.2.2.env.arrow.1.2
    have HC := Hd (want_any b me ma l r d sArrow (by decide) w5 H5.out.1)
    go_wp2_with fail
    refine HC.out.mono ?_
    rintro e w6 h
    cases ho : wantO sArrow l r with
    | bad er ln =>
     rw [ho] at h
     obtain ⟨hbr, hg⟩ := h
     have hp := HP.out
     rw [ho, bind_bad] at hp
     have HB := Hd (Ai hp (Gt (Gt (grown_of (b := b) HX.out.1) H5.out.2.1) hg))
     unfold Broken at hbr
     subst hbr
     clear hg ho hp HC c0 c1
     go_wp2_with fail
     refine ⟨rfl, ?_⟩
     rw [HB.out.1]
     exact ⟨rfl, HB.out.2⟩
    | ok y2 l2 r2 =>
     rw [ho] at h
     obtain ⟨rfl, hR, hg⟩ := h
     have hlr2 := congrArg List.length (wantO_less (by decide) ho)
     simp only [List.length_cons] at hlr2
     have hp := HP.out
     rw [ho, bind_ok] at hp
     have HQ := Hd hp
     have hgW := Gt H5.out.2.1 hg
     have HG6 := Hd hg
     have hsz6 : w5.heap.size ≤ w6.heap.size := hg.size
     have H6 := Hd (Ai hR (Ai hgW (HX.out.2.2.2.later hgW)))
     clear hp ho HP HC hg hgW hR c0 c1
     have HP := HQ
     clear HQ
     replace HBq := Hd (boxw_grown HBq.out HG6.out (by omega))
     have HC := Hd (hEx l2 r2 w6 (by omega) (by omega) H6.out.2.2 H6.out.1)
     go_wp2_with fail
     refine HC.out.mono ?_
     rintro e w7 h
     cases ho : exprO n d l2 r2 with
     | bad er ln =>
      rw [ho] at h
      obtain ⟨hbr, hg⟩ := h
      have hp := HP.out
      rw [ho, bind_bad] at hp
      have HB := Hd (Ai hp (Gt (Gt (grown_of (b := b) HX.out.1) H6.out.2.1) hg))
      unfold Broken at hbr
      subst hbr
      clear hg ho hp HC 
      go_wp2_with fail
      refine ⟨rfl, ?_⟩
      rw [HB.out.1]
      exact ⟨rfl, HB.out.2⟩
     | ok x l3 r3 =>
      rw [ho] at h
      have hlr3 : r3.length ≤ r2.length := by have h := expr_shrinks n d l2 r2; rw [ho] at h; exact h
      obtain ⟨⟨k3, nm3, f3, u3, vp, vk, vb, va, rfl, hat⟩, hR, hg⟩ := h
      obtain ⟨⟨ap3, np3, cp3, rfl⟩, ⟨ak3, nk3, ck3, rfl⟩, ⟨ab3, nb3, cb3, rfl⟩, ⟨aa3, na3, ca3, rfl⟩⟩ := hat.slices
      have HT3 := Hd hat
      clear hat
      have hp := HP.out
      rw [ho, bind_ok] at hp
      have HQ := Hd hp
      have hgW := Gt H6.out.2.1 hg
      have HG7 := Hd hg
      have hsz7 : w6.heap.size ≤ w7.heap.size := hg.size
      have H7 := Hd (Ai hR (Ai hgW (HX.out.2.2.2.later hgW)))
      clear hp ho HP HC hg hgW hR 
      have HP := HQ
      clear HQ
      replace HBq := Hd (boxw_grown HBq.out HG7.out (by omega))
      have q5 : w7.cell? ⟨W.heap.size, 5, none⟩ = some _ := HBq.out.1 5 _ rfl
      have z5 : w7.frozen? ⟨W.heap.size, 5, none⟩ = false := HBq.out.2 5
      have q6 : w7.cell? ⟨W.heap.size, 6, none⟩ = some _ := HBq.out.1 6 _ rfl
      have z6 : w7.frozen? ⟨W.heap.size, 6, none⟩ = false := HBq.out.2 6
      have q7 : w7.cell? ⟨W.heap.size, 7, none⟩ = some _ := HBq.out.1 7 _ rfl
      have z7 : w7.frozen? ⟨W.heap.size, 7, none⟩ = false := HBq.out.2 7
      have q8 : w7.cell? ⟨W.heap.size, 8, none⟩ = some _ := HBq.out.1 8 _ rfl
      have z8 : w7.frozen? ⟨W.heap.size, 8, none⟩ = false := HBq.out.2 8
      have q9 : w7.cell? ⟨W.heap.size, 9, none⟩ = some _ := HBq.out.1 9 _ rfl
      have z9 : w7.frozen? ⟨W.heap.size, 9, none⟩ = false := HBq.out.2 9
      have q10 : w7.cell? ⟨W.heap.size, 10, none⟩ = some _ := HBq.out.1 10 _ rfl
      have z10 : w7.frozen? ⟨W.heap.size, 10, none⟩ = false := HBq.out.2 10
      have q11 : w7.cell? ⟨W.heap.size, 11, none⟩ = some _ := HBq.out.1 11 _ rfl
      have z11 : w7.frozen? ⟨W.heap.size, 11, none⟩ = false := HBq.out.2 11
      have q12 : w7.cell? ⟨W.heap.size, 12, none⟩ = some _ := HBq.out.1 12 _ rfl
      have z12 : w7.frozen? ⟨W.heap.size, 12, none⟩ = false := HBq.out.2 12
      go_upto_region 10 with fail
      obtain ⟨w8, hq⟩ : ∃ q, q = ((((((((w7.setCell ⟨W.heap.size, 5, none⟩ (.int .i64 k3)).setCell ⟨W.heap.size, 6, none⟩ (.string nm3)).setCell ⟨W.heap.size, 7, none⟩ (.bool f3)).setCell ⟨W.heap.size, 8, none⟩ (.int .u64 u3)).setCell ⟨W.heap.size, 9, none⟩ (.slice ap3 np3 cp3)).setCell ⟨W.heap.size, 10, none⟩ (.slice ak3 nk3 ck3)).setCell ⟨W.heap.size, 11, none⟩ (.slice ab3 nb3 cb3)).setCell ⟨W.heap.size, 12, none⟩ (.slice aa3 na3 ca3)) := ⟨_, rfl⟩
      have HBn := Hd (show BoxW w8 W.heap.size [.int .i64 2, .string (tx y.1.t), .bool false, .int .u64 0, .slice none 0 0, .int .i64 k3, .string nm3, .bool f3, .int .u64 u3, .slice ap3 np3 cp3, .slice ak3 nk3 ck3, .slice ab3 nb3 cb3, .slice aa3 na3 ca3] by subst hq; exact ((HBq.out)).b13_5_8)
      have hgW : W.grownBy w8 (some b) := by subst hq; exact (gn8 H7.out.2.1 (show W.heap.size ≤ W.heap.size by omega))
      have hR : Rdr w8 b me ma (l3) (r3) d := by subst hq; exact (H7.out.1).o8 (show b < W.heap.size by omega)
      have HK8 := Hd (show ∀ lo hi, W.heap.size < lo → Kp lo hi w7 w8 by subst hq; exact fun lo hi h => ((Kp.s8 (Or.inl h))))
      have hsz8 : w7.heap.size ≤ w8.heap.size := by subst hq; simp
      clear q5 z5 q6 z6 q7 z7 q8 z8 q9 z9 q10 z10 q11 z11 q12 z12
      have H8 := Hd (Ai hR (Ai hgW (HX.out.2.2.2.later hgW)))
      clear hR hgW
      rw [← hq]
      clear hq
      clear HBq
      have HBq := HBn
      clear HBn
      have hBp : BoxW w8 w.heap.size [.int .i64 0, .string ⟨#[]⟩, .bool false, .int .u64 0, .slice none 0 0, .int .i64 0, .string ⟨#[]⟩, .bool false, .int .u64 0, .slice none 0 0, .slice none 0 0, .slice none 0 0, .slice none 0 0] := boxw_grown HX.out.2.2.1 H8.out.2.1 (by omega)
      obtain ⟨d0, d1, d2, d3, d4, d5, d6, d7, d8, d9, d10, d11, d12⟩ := (hBp).q13
      obtain ⟨z0, z1, z2, z3, z4, z5, z6, z7, z8, z9, z10, z11, z12⟩ := (hBp).z13
      obtain ⟨q0, q1, q2, q3, q4, q5, q6, q7, q8, q9, q10, q11, q12⟩ := (HBq.out).q13
      have HBp := Hd hBp
      clear hBp
      go_wp2_with fail
      have hF := ((HBp.out)).b13v (.int .i64 2) (.string (tx y.1.t)) (.bool false) (.int .u64 0) (.slice none 0 0) (.int .i64 k3) (.string nm3) (.bool f3) (.int .u64 u3) (.slice ap3 np3 cp3) (.slice ak3 nk3 ck3) (.slice ab3 nb3 cb3) (.slice aa3 na3 ca3)
      have v0 := hF.1 0 _ rfl
      have v1 := hF.1 1 _ rfl
      have v2 := hF.1 2 _ rfl
      have v3 := hF.1 3 _ rfl
      have v4 := hF.1 4 _ rfl
      have v5 := hF.1 5 _ rfl
      have v6 := hF.1 6 _ rfl
      have v7 := hF.1 7 _ rfl
      have v8 := hF.1 8 _ rfl
      have v9 := hF.1 9 _ rfl
      have v10 := hF.1 10 _ rfl
      have v11 := hF.1 11 _ rfl
      have v12 := hF.1 12 _ rfl
      refine bodyPost_ret (v := .agg #[.int .i64 2, .string (tx y.1.t), .bool false, .int .u64 0, .slice none 0 0, .int .i64 k3, .string nm3, .bool f3, .int .u64 u3, .slice ap3 np3 cp3, .slice ak3 nk3 ck3, .slice ab3 nb3 cb3, .slice aa3 na3 ca3]) (by simp [results, Tryz.results125, go_sem, v0, v1, v2, v3, v4, v5, v6, v7, v8, v9, v10, v11, v12]) rfl ?_
      rw [HP.out]
      refine ⟨⟨_, _, _, _, _, _, _, _, _, rfl, ?_, ?_⟩, (((((((((((((H8.out.1).over hlt _).over hlt _).over hlt _).over hlt _).over hlt _).over hlt _).over hlt _).over hlt _).over hlt _).over hlt _).over hlt _).over hlt _).over hlt _, (grown_new (grown_new (grown_new (grown_new (grown_new (grown_new (grown_new (grown_new (grown_new (grown_new (grown_new (grown_new (grown_new (Gt (grown_of (b := b) HX.out.1) H8.out.2.1) Nr _) Nr _) Nr _) Nr _) Nr _) Nr _) Nr _) Nr _) Nr _) Nr _) Nr _) Nr _) Nr _)⟩
      ·exact RowAt.nil _ _ _ _
      ·exact HT3.out.kp ((HK8.out _ _ (by omega)).trans ((Kp.s13 (Or.inl (by omega))))) (by omega)
def BndsV (lo : Nat) (xs : List Bnd) (e : Ending) (w : World) : Prop := ∃ v cs, e = .returned v ∧ w.ownsRow lo 51 10 v xs.length cs ∧ BndsAt w (fun g => lo ≤ g) xs cs
def AltsV (lo : Nat) (xs : List Alt) (e : Ending) (w : World) : Prop := ∃ v cs, e = .returned v ∧ w.ownsRow lo 87 13 v xs.length cs ∧ AltsAt w (fun g => lo ≤ g) xs cs
theorem Tryz.info_bind : (Tryz.prog.info? 51).map (fun i => (i.zero, i.size, i.bytes)) = some (some (.agg #[.string ⟨#[]⟩, .slice none 0 0, .int .i64 0, .string ⟨#[]⟩, .bool false, .int .u64 0, .slice none 0 0, .slice none 0 0, .slice none 0 0, .slice none 0 0]), 10, 176) := by kernel_rfl
theorem Tryz.info_alt : (Tryz.prog.info? 87).map (fun i => (i.zero, i.size, i.bytes)) = some (some (.agg #[.int .i64 0, .string ⟨#[]⟩, .bool false, .int .u64 0, .slice none 0 0, .int .i64 0, .string ⟨#[]⟩, .bool false, .int .u64 0, .slice none 0 0, .slice none 0 0, .slice none 0 0, .slice none 0 0]), 13, 200) := by kernel_rfl
theorem BndsAt.snoc {W : World} {K : Nat → Prop} : ∀ {bs : List Bnd} {xs : List Value} {x : Bnd} {vp : Value} {cs : List Value}, BndsAt W K bs xs → RowAt W K 9 1 vp x.2.1.length (namesV x.2.1) → ExAt W K x.2.2 cs → BndsAt W K (bs ++ [x]) (xs ++ (.string (tx x.1) :: vp :: cs))
 | [], _, (n, ps, e), vp, cs, .nil, hp, h => by simpa using BndsAt.cons n ps e [] vp cs [] hp h .nil
 | _ :: bs, _, x, vp, cs, .cons n ps e _ v0 c0 x0 hp0 h0 t0, hp, h => by simpa [List.append_assoc] using BndsAt.cons n ps e _ v0 c0 _ hp0 h0 (t0.snoc hp h)
theorem AltsAt.snoc {W : World} {K : Nat → Prop} : ∀ {bs : List Alt} {xs : List Value} {x : Alt} {vp : Value} {cs : List Value}, AltsAt W K bs xs → RowAt W K 9 1 vp x.2.2.2.2.1.length (namesV x.2.2.2.2.1) → ExAt W K x.2.2.2.2.2 cs → AltsAt W K (bs ++ [x]) (xs ++ (.int .i64 x.1 :: .string (tx x.2.1) :: .bool x.2.2.1 :: .int .u64 x.2.2.2.1 :: vp :: cs))
 | [], _, (k, n, f, u, ps, e), vp, cs, .nil, hp, h => by simpa using AltsAt.cons k n f u ps e [] vp cs [] hp h .nil
 | _ :: bs, _, x, vp, cs, .cons k n f u ps e _ v0 c0 x0 hp0 h0 t0, hp, h => by simpa [List.append_assoc] using AltsAt.cons k n f u ps e _ v0 c0 _ hp0 h0 (t0.snoc hp h)
theorem binds_any (b me ma : Nat) (B : Bx) (n d : Nat) (hEx : ExprC b me ma B n d) (last : Int) (rest : List Tok) (hn : rest.length ≤ n) (hL : rest.length ≤ 4096) (w : World) (hC : Ctx w b me ma B) (hR : Rdr w b me ma last rest d) : Calls Tryz.prog 85 #[.pointer (some ⟨b, 0, none⟩)] w (OutSaid b me ma d (BndsV w.heap.size) (someO (bindO (exprO n d)) last rest) w) := by
 have hlt : b < w.heap.size := Bl hR.c1
 have HE := Hd (Ai hC hR)
 obtain ⟨i0, hi0, hz0, hzs, hzb⟩ := info_parts Tryz.info_bind
 have HP := Hd (show someO (bindO (exprO n d)) last rest = (bindO (exprO n d) last rest).bind fun a l r => moreO (bindO (exprO n d)) (r.length + 1) [a] l r from rfl)
 clear hC hR
 go_enter Tryz.func85, Tryz.ntmps85
 have HC := Hd (bind_any b me ma B n d hEx last rest hn hL w HE.out.1 HE.out.2)
 go_wp2_with fail
 refine HC.out.mono ?_
 rintro e w1 h
 cases ho : bindO (exprO n d) last rest with
 | bad er ln =>
  rw [ho] at h
  obtain ⟨hbr, hg⟩ := h
  have hp := HP.out
  rw [ho, bind_bad] at hp
  have HB := Hd (Ai hp hg)
  unfold Broken at hbr
  subst hbr
  clear hg ho hp HC
  go_wp2_with fail
  refine ⟨rfl, ?_⟩
  rw [HB.out.1]
  exact ⟨rfl, HB.out.2⟩
 | ok a l r =>
  rw [ho] at h
  have hlr : r.length ≤ rest.length := by have h := bind_shrinks (expr_shrinks n d) last rest; rw [ho] at h; exact h
  have hp := HP.out
  rw [ho, bind_ok] at hp
  obtain ⟨⟨vp, k, nm, f, u, vq, vk, vb, va, rfl, hrow, hat⟩, hR, hg⟩ := h
  obtain ⟨ap, np, cp, rfl⟩ := hrow.slice
  obtain ⟨⟨ap1, np1, cp1, rfl⟩, ⟨ak, nk, ck, rfl⟩, ⟨ab, nb, cb, rfl⟩, ⟨aa, na, ca, rfl⟩⟩ := hat.slices
  have hy := (Below.refl w1.heap.size w1).alloc Nr (.cells #[.string (tx a.1), .slice ap np cp, .int .i64 k, .string nm, .bool f, .int .u64 u, .slice ap1 np1 cp1, .slice ak nk ck, .slice ab nb cb, .slice aa na ca] 51)
  have hown := own_built (W := (w1.alloc (.cells #[.string (tx a.1), .slice ap np cp, .int .i64 k, .string nm, .bool f, .int .u64 u, .slice ap1 np1 cp1, .slice ak nk ck, .slice ab nb cb, .slice aa na ca] 51))) (g := w1.heap.size) (base := w1.heap.size) (size := 10) (n := 1) (cs := #[.string (tx a.1), .slice ap np cp, .int .i64 k, .string nm, .bool f, .int .u64 u, .slice ap1 np1 cp1, .slice ak nk ck, .slice ab nb cb, .slice aa na ca]) (heap_alloc_new _ _) Nr rfl (by decide)
  have hbs : BndsAt (w1.alloc (.cells #[.string (tx a.1), .slice ap np cp, .int .i64 k, .string nm, .bool f, .int .u64 u, .slice ap1 np1 cp1, .slice ak nk ck, .slice ab nb cb, .slice aa na ca] 51)) (fun g => w.heap.size ≤ g ∧ g ≠ w1.heap.size) [a] [.string (tx a.1), .slice ap np cp, .int .i64 k, .string nm, .bool f, .int .u64 u, .slice ap1 np1 cp1, .slice ak nk ck, .slice ab nb cb, .slice aa na ca] := BndsAt.cons a.1 a.2.1 a.2.2 [] (.slice ap np cp) _ [] (hrow.move (fun g hg lt => ⟨⟨hg, by omega⟩, hy.block g lt⟩)) (hat.move (fun g hg lt => ⟨⟨hg, by omega⟩, hy.block g lt⟩)) .nil
  have hsz1 : w.heap.size ≤ w1.heap.size := hg.size
  have H1 := Hd (Ai (hR.later hy) (Ai (Gt hg (grown_of (b := b) hy)) (Ai (own_base hown hsz1) hbs)))
  have HP2 := Hd hp
  clear hR hg hy hown hbs hrow hat hp ho HP HC
  have HP := HP2
  clear HP2
  go_upto_region 2 with fail
  generalize hWA : (w1.alloc (.cells #[.string (tx a.1), .slice ap np cp, .int .i64 k, .string nm, .bool f, .int .u64 u, .slice ap1 np1 cp1, .slice ak nk ck, .slice ab nb cb, .slice aa na ca] 51)) = W1 at *
  clear hWA
  go_loopw [3] (fun s3 wr => ∃ (l' : Int) (r' : List Tok) (acc : List Bnd) (vv : Value) (cs : List Value) (fu : Nat), vv = s3 ∧ Rdr wr b me ma l' r' d ∧ w.grownBy wr (some b) ∧ r'.length < fu ∧ moreO (bindO (exprO n d)) fu acc l' r' = someO (bindO (exprO n d)) last rest ∧ acc.length + r'.length ≤ rest.length + 1 ∧ 1 ≤ acc.length ∧ wr.ownsRow w.heap.size 51 10 vv acc.length cs ∧ BndsAt wr (fun g => w.heap.size ≤ g ∧ some g ≠ vv.ownBlock) acc cs) (fun s3 _ => rest.length + 1 - lenOf s3)
  case atStart => exact ⟨l, r, [a], _, _, _, rfl, H1.out.1, H1.out.2.1, Nat.lt_succ_self _, HP.out.symm, by simp; omega, by simp, H1.out.2.2.1, H1.out.2.2.2.move (fun g hg lt => ⟨⟨hg.1, fun e => hg.2 (Oi e)⟩, rfl⟩)⟩
  case round =>
   obtain ⟨l', r', acc, vv, cs, fu, rfl, hR, hg, hfu, hN, hn', h1, hown, hex⟩ := hrel
   obtain ⟨ax, cx, rfl, hlow⟩ := own_shape hown
   have HS := Hd (skip_any b me ma l' r' d sSemi (by decide) wr hR)
   have c0 := (HE.out.1.later hg).env.semi.1.1
   have c1 := (HE.out.1.later hg).env.semi.1.2
   have HQ := Hd (Ai hR (Ai hg (Ai hN (Ai hown (Ai hex hlow)))))
   clear hR hg hN hown hex hlow
   obtain ⟨fu', rfl⟩ : ∃ q, fu = q + 1 := ⟨fu - 1, by omega⟩
   go_wp2_with fail
   refine HS.out.mono ?_
   rintro e w2 (⟨gs, rfl, y, q, rfl, hR, hg⟩ | ⟨gs, rfl, hb⟩)
   ·have hN : moreO (bindO (exprO n d)) (fu' + 1) acc l' (y :: q) = (bindO (exprO n d) y.2 q).bind fun a l2 r2 => moreO (bindO (exprO n d)) fu' (acc ++ [a]) l2 r2 := by
     conv => lhs; unfold moreO
     exact if_pos gs
    have hN2 := HQ.out.2.2.1
    rw [hN] at hN2
    simp only [List.length_cons] at hfu hn'
    have HO2 := Hd (own_kept HQ.out.2.2.2.1 hg (fun e => by have := HQ.out.2.2.2.2.2 b e; omega))
    have hltO : ∀ g, (Value.slice ax acc.length cx).ownBlock = some g → g < wr.heap.size := fun g hg => (HQ.out.2.2.2.1.lt g hg).2
    have HEx := Hd (Ai hltO (HQ.out.2.2.2.2.1.move (K' := fun g => w.heap.size ≤ g ∧ some g ≠ (Value.slice ax acc.length cx).ownBlock) (W' := w2) (fun g hk lt => ⟨hk, hg.block g lt (by have := hk.1; simp; omega)⟩)))
    have hsz2 : wr.heap.size ≤ w2.heap.size := hg.size
    have H2 := Hd (Ai hR (Ai (Gt HQ.out.2.1 hg) hN2))
    clear hR hg hN hN2 gs HS c0 c1 hltO
    have HC := Hd (bind_any b me ma B n d hEx y.2 q (by omega) (by omega) w2 (HE.out.1.later H2.out.2.1) H2.out.1)
    go_wp2_with fail
    refine HC.out.mono ?_
    rintro e w3 h
    cases ho : bindO (exprO n d) y.2 q with
    | bad er ln =>
     rw [ho] at h
     obtain ⟨hbr, hg⟩ := h
     have hp := H2.out.2.2
     rw [ho, bind_bad] at hp
     have HB := Hd (Ai hp.symm (Gt H2.out.2.1 hg))
     unfold Broken at hbr
     subst hbr
     clear hg ho hp HC
     go_wp2_with fail
     refine ⟨rfl, ?_⟩
     rw [HB.out.1]
     exact ⟨rfl, HB.out.2⟩
    | ok a l2 r2 =>
     rw [ho] at h
     have hl2 : r2.length ≤ q.length := by have h := bind_shrinks (expr_shrinks n d) y.2 q; rw [ho] at h; exact h
     have hp := H2.out.2.2
     rw [ho, bind_ok] at hp
     obtain ⟨⟨vp, k, nm, f, u, vq, vk, vb, va, rfl, hrow, hat⟩, hR, hg⟩ := h
     obtain ⟨ap, np, cp, rfl⟩ := hrow.slice
     obtain ⟨⟨ap1, np1, cp1, rfl⟩, ⟨ak, nk, ck, rfl⟩, ⟨ab, nb, cb, rfl⟩, ⟨aa, na, ca, rfl⟩⟩ := hat.slices
     have HO3 := Hd (own_kept HO2.out hg (fun e => by have := HQ.out.2.2.2.2.2 b e; omega))
     have hsz3 : w2.heap.size ≤ w3.heap.size := hg.size
     have hsz0 : w.heap.size ≤ w2.heap.size := H2.out.2.1.size
     have H3 := Hd (Ai hR (Ai (Gt H2.out.2.1 hg) (Ai hg (Ai hp (Ai hrow hat)))))
     have oneC : ∀ z ∈ ([.string (tx a.1), .slice ap np cp, .int .i64 k, .string nm, .bool f, .int .u64 u, .slice ap1 np1 cp1, .slice ak nk ck, .slice ab nb cb, .slice aa na ca] : List Value), z.oneCell' = true := by intro z hz; simp at hz; rcases hz with rfl | rfl | rfl | rfl | rfl | rfl | rfl | rfl | rfl | rfl <;> rfl
     have m9 : acc.length + 1 ≤ maxLen := by unfold maxLen; omega
     have m8 : (acc.length + 1) * 176 ≤ 140737488355328 := by omega
     clear hR hg hp hrow hat HC ho HO2
     go_wp2_with (at_builtin; refine wpList_append_lies _ rfl _ _ 24 rfl w.heap.size 51 i0 (.agg #[.string ⟨#[]⟩, .slice none 0 0, .int .i64 0, .string ⟨#[]⟩, .bool false, .int .u64 0, .slice none 0 0, .slice none 0 0, .slice none 0 0, .slice none 0 0]) 10 176 Tryz.underlying24 hi0 hz0 hzs hzb rfl (by decide) (.slice ax acc.length cx) acc.length cs rfl (HO3.out.alloc _) ⟨w3.heap.size, 0, none⟩ 1 1 [.string (tx a.1), .slice ap np cp, .int .i64 k, .string nm, .bool f, .int .u64 u, .slice ap1 np1 cp1, .slice ak nk ck, .slice ab nb cb, .slice aa na ca] rfl rfl (World.news_of_block (heap_alloc_new _ _)) oneC (by decide) m9 m8 (by simp; omega) _ rfl ?_; intro g9 cap9 w9 o1 o2 o3 o4)
     have hxx := (Below.refl w3.heap.size w3).alloc Nr (.cells #[.string (tx a.1), .slice ap np cp, .int .i64 k, .string nm, .bool f, .int .u64 u, .slice ap1 np1 cp1, .slice ak nk ck, .slice ab nb cb, .slice aa na ca] 51)
     have hlow : ∀ g, (Value.slice ax acc.length cx).ownBlock = some g → w.heap.size ≤ g := HQ.out.2.2.2.2.2
     obtain ⟨q9, hq, hg9⟩ := grown_some (b := b) o2 (fun g e => by have := hlow g e; omega)
     have hs5 := hxx.size
     refine ⟨⟨l2, r2, acc ++ [a], _, cs ++ [.string (tx a.1), .slice ap np cp, .int .i64 k, .string nm, .bool f, .int .u64 u, .slice ap1 np1 cp1, .slice ak nk ck, .slice ab nb cb, .slice aa na ca], fu', rfl, (H3.out.1.later hxx).past hg9 hq, grown_past (Gt H3.out.2.1 (grown_of hxx)) o2 hlow, by omega, H3.out.2.2.2.1, by simp; omega, by simp, by simpa using o1, ?_⟩, by simp [lenOf]; omega⟩
     have hfar : ∀ g, w2.heap.size ≤ g → g < w3.heap.size → (w.heap.size ≤ g ∧ some g ≠ (Value.slice (some ⟨g9, 0, none⟩) (acc.length + 1) cap9).ownBlock) ∧ w9.heap[g]? = w3.heap[g]? := by
      intro g h1 h2
      have hne9 : some g ≠ (Value.slice ax acc.length cx).ownBlock := fun e => by have := HEx.out.1 g e.symm; omega
      refine ⟨⟨by omega, fun e => ?_⟩, (o2.block g (by omega) hne9).trans (hxx.block g (by omega))⟩
      rcases o3 with h | h
      ·exact hne9 (e.trans h.symm)
      ·have := Oi e
       simp at this h
       omega
     refine BndsAt.snoc (HEx.out.2.move (fun g hg lt => ?_)) (H3.out.2.2.2.2.1.move (fun g hg lt => hfar g hg lt)) (H3.out.2.2.2.2.2.move (fun g hg lt => hfar g hg lt))
     refine ⟨⟨hg.1, fun e => ?_⟩, ((o2.block g (by omega) hg.2).trans (hxx.block g (by omega))).trans (H3.out.2.2.1.block g (by omega) (by have := hg.1; simp; omega))⟩
     rcases o3 with h | h
     ·exact hg.2 (e.trans h.symm)
     ·have := Oi e
      simp at this h
      omega
   ·have hN : moreO (bindO (exprO n d)) (fu' + 1) acc l' r' = .ok acc l' r' := by
     conv => lhs; unfold moreO
     exact if_neg gs
    have hN2 := HQ.out.2.2.1
    rw [hN] at hN2
    have H2 := Hd (Ai (HQ.out.1.later hb) (Ai (Gt HQ.out.2.1 (grown_of (b := b) hb)) (Ai hN2 (Ai (own_below HQ.out.2.2.2.1 hb) hb))))
    clear hN hN2 gs HS c0 c1 hb
    go_wp2_with fail
    refine bodyPost_ret (v := .slice ax acc.length cx) (by simp [results, Tryz.results85, go_sem]) rfl ?_
    rw [← H2.out.2.2.1]
    exact ⟨⟨_, cs, rfl, H2.out.2.2.2.1, HQ.out.2.2.2.2.1.move (fun g hg lt => ⟨hg.1, H2.out.2.2.2.2.block g lt⟩)⟩, H2.out.1, H2.out.2.1⟩
theorem alts_any (b me ma : Nat) (B : Bx) (n d : Nat) (hEx : ExprC b me ma B n d) (last : Int) (rest : List Tok) (hn : rest.length ≤ n) (hL : rest.length ≤ 4096) (w : World) (hC : Ctx w b me ma B) (hR : Rdr w b me ma last rest d) : Calls Tryz.prog 88 #[.pointer (some ⟨b, 0, none⟩)] w (OutSaid b me ma d (AltsV w.heap.size) (someO (altO (exprO n d)) last rest) w) := by
 have hlt : b < w.heap.size := Bl hR.c1
 have HE := Hd (Ai hC hR)
 obtain ⟨i0, hi0, hz0, hzs, hzb⟩ := info_parts Tryz.info_alt
 have HP := Hd (show someO (altO (exprO n d)) last rest = (altO (exprO n d) last rest).bind fun a l r => moreO (altO (exprO n d)) (r.length + 1) [a] l r from rfl)
 clear hC hR
 go_enter Tryz.func88, Tryz.ntmps88
 have HC := Hd (alt_any b me ma B n d hEx last rest hn hL w HE.out.1 HE.out.2)
 go_wp2_with fail
 refine HC.out.mono ?_
 rintro e w1 h
 cases ho : altO (exprO n d) last rest with
 | bad er ln =>
  rw [ho] at h
  obtain ⟨hbr, hg⟩ := h
  have hp := HP.out
  rw [ho, bind_bad] at hp
  have HB := Hd (Ai hp hg)
  unfold Broken at hbr
  subst hbr
  clear hg ho hp HC
  go_wp2_with fail
  refine ⟨rfl, ?_⟩
  rw [HB.out.1]
  exact ⟨rfl, HB.out.2⟩
 | ok a l r =>
  rw [ho] at h
  have hlr : r.length ≤ rest.length := by have h := alt_shrinks (expr_shrinks n d) last rest; rw [ho] at h; exact h
  have hp := HP.out
  rw [ho, bind_ok] at hp
  obtain ⟨⟨vp, k, nm, f, u, vq, vk, vb, va, rfl, hrow, hat⟩, hR, hg⟩ := h
  obtain ⟨ap, np, cp, rfl⟩ := hrow.slice
  obtain ⟨⟨ap1, np1, cp1, rfl⟩, ⟨ak, nk, ck, rfl⟩, ⟨ab, nb, cb, rfl⟩, ⟨aa, na, ca, rfl⟩⟩ := hat.slices
  have hy := (Below.refl w1.heap.size w1).alloc Nr (.cells #[.int .i64 a.1, .string (tx a.2.1), .bool a.2.2.1, .int .u64 a.2.2.2.1, .slice ap np cp, .int .i64 k, .string nm, .bool f, .int .u64 u, .slice ap1 np1 cp1, .slice ak nk ck, .slice ab nb cb, .slice aa na ca] 87)
  have hown := own_built (W := (w1.alloc (.cells #[.int .i64 a.1, .string (tx a.2.1), .bool a.2.2.1, .int .u64 a.2.2.2.1, .slice ap np cp, .int .i64 k, .string nm, .bool f, .int .u64 u, .slice ap1 np1 cp1, .slice ak nk ck, .slice ab nb cb, .slice aa na ca] 87))) (g := w1.heap.size) (base := w1.heap.size) (size := 13) (n := 1) (cs := #[.int .i64 a.1, .string (tx a.2.1), .bool a.2.2.1, .int .u64 a.2.2.2.1, .slice ap np cp, .int .i64 k, .string nm, .bool f, .int .u64 u, .slice ap1 np1 cp1, .slice ak nk ck, .slice ab nb cb, .slice aa na ca]) (heap_alloc_new _ _) Nr rfl (by decide)
  have hbs : AltsAt (w1.alloc (.cells #[.int .i64 a.1, .string (tx a.2.1), .bool a.2.2.1, .int .u64 a.2.2.2.1, .slice ap np cp, .int .i64 k, .string nm, .bool f, .int .u64 u, .slice ap1 np1 cp1, .slice ak nk ck, .slice ab nb cb, .slice aa na ca] 87)) (fun g => w.heap.size ≤ g ∧ g ≠ w1.heap.size) [a] [.int .i64 a.1, .string (tx a.2.1), .bool a.2.2.1, .int .u64 a.2.2.2.1, .slice ap np cp, .int .i64 k, .string nm, .bool f, .int .u64 u, .slice ap1 np1 cp1, .slice ak nk ck, .slice ab nb cb, .slice aa na ca] := AltsAt.cons a.1 a.2.1 a.2.2.1 a.2.2.2.1 a.2.2.2.2.1 a.2.2.2.2.2 [] (.slice ap np cp) _ [] (hrow.move (fun g hg lt => ⟨⟨hg, by omega⟩, hy.block g lt⟩)) (hat.move (fun g hg lt => ⟨⟨hg, by omega⟩, hy.block g lt⟩)) .nil
  have hsz1 : w.heap.size ≤ w1.heap.size := hg.size
  have H1 := Hd (Ai (hR.later hy) (Ai (Gt hg (grown_of (b := b) hy)) (Ai (own_base hown hsz1) hbs)))
  have HP2 := Hd hp
  clear hR hg hy hown hbs hrow hat hp ho HP HC
  have HP := HP2
  clear HP2
  go_upto_region 2 with fail
  generalize hWA : (w1.alloc (.cells #[.int .i64 a.1, .string (tx a.2.1), .bool a.2.2.1, .int .u64 a.2.2.2.1, .slice ap np cp, .int .i64 k, .string nm, .bool f, .int .u64 u, .slice ap1 np1 cp1, .slice ak nk ck, .slice ab nb cb, .slice aa na ca] 87)) = W1 at *
  clear hWA
  go_loopw [3] (fun s3 wr => ∃ (l' : Int) (r' : List Tok) (acc : List Alt) (vv : Value) (cs : List Value) (fu : Nat), vv = s3 ∧ Rdr wr b me ma l' r' d ∧ w.grownBy wr (some b) ∧ r'.length < fu ∧ moreO (altO (exprO n d)) fu acc l' r' = someO (altO (exprO n d)) last rest ∧ acc.length + r'.length ≤ rest.length + 1 ∧ 1 ≤ acc.length ∧ wr.ownsRow w.heap.size 87 13 vv acc.length cs ∧ AltsAt wr (fun g => w.heap.size ≤ g ∧ some g ≠ vv.ownBlock) acc cs) (fun s3 _ => rest.length + 1 - lenOf s3)
  case atStart => exact ⟨l, r, [a], _, _, _, rfl, H1.out.1, H1.out.2.1, Nat.lt_succ_self _, HP.out.symm, by simp; omega, by simp, H1.out.2.2.1, H1.out.2.2.2.move (fun g hg lt => ⟨⟨hg.1, fun e => hg.2 (Oi e)⟩, rfl⟩)⟩
  case round =>
   obtain ⟨l', r', acc, vv, cs, fu, rfl, hR, hg, hfu, hN, hn', h1, hown, hex⟩ := hrel
   obtain ⟨ax, cx, rfl, hlow⟩ := own_shape hown
   have HS := Hd (skip_any b me ma l' r' d sSemi (by decide) wr hR)
   have c0 := (HE.out.1.later hg).env.semi.1.1
   have c1 := (HE.out.1.later hg).env.semi.1.2
   have HQ := Hd (Ai hR (Ai hg (Ai hN (Ai hown (Ai hex hlow)))))
   clear hR hg hN hown hex hlow
   obtain ⟨fu', rfl⟩ : ∃ q, fu = q + 1 := ⟨fu - 1, by omega⟩
   go_wp2_with fail
   refine HS.out.mono ?_
   rintro e w2 (⟨gs, rfl, y, q, rfl, hR, hg⟩ | ⟨gs, rfl, hb⟩)
   ·have hN : moreO (altO (exprO n d)) (fu' + 1) acc l' (y :: q) = (altO (exprO n d) y.2 q).bind fun a l2 r2 => moreO (altO (exprO n d)) fu' (acc ++ [a]) l2 r2 := by
     conv => lhs; unfold moreO
     exact if_pos gs
    have hN2 := HQ.out.2.2.1
    rw [hN] at hN2
    simp only [List.length_cons] at hfu hn'
    have HO2 := Hd (own_kept HQ.out.2.2.2.1 hg (fun e => by have := HQ.out.2.2.2.2.2 b e; omega))
    have hltO : ∀ g, (Value.slice ax acc.length cx).ownBlock = some g → g < wr.heap.size := fun g hg => (HQ.out.2.2.2.1.lt g hg).2
    have HEx := Hd (Ai hltO (HQ.out.2.2.2.2.1.move (K' := fun g => w.heap.size ≤ g ∧ some g ≠ (Value.slice ax acc.length cx).ownBlock) (W' := w2) (fun g hk lt => ⟨hk, hg.block g lt (by have := hk.1; simp; omega)⟩)))
    have hsz2 : wr.heap.size ≤ w2.heap.size := hg.size
    have H2 := Hd (Ai hR (Ai (Gt HQ.out.2.1 hg) hN2))
    clear hR hg hN hN2 gs HS c0 c1 hltO
    have HC := Hd (alt_any b me ma B n d hEx y.2 q (by omega) (by omega) w2 (HE.out.1.later H2.out.2.1) H2.out.1)
    go_wp2_with fail
    refine HC.out.mono ?_
    rintro e w3 h
    cases ho : altO (exprO n d) y.2 q with
    | bad er ln =>
     rw [ho] at h
     obtain ⟨hbr, hg⟩ := h
     have hp := H2.out.2.2
     rw [ho, bind_bad] at hp
     have HB := Hd (Ai hp.symm (Gt H2.out.2.1 hg))
     unfold Broken at hbr
     subst hbr
     clear hg ho hp HC
     go_wp2_with fail
     refine ⟨rfl, ?_⟩
     rw [HB.out.1]
     exact ⟨rfl, HB.out.2⟩
    | ok a l2 r2 =>
     rw [ho] at h
     have hl2 : r2.length ≤ q.length := by have h := alt_shrinks (expr_shrinks n d) y.2 q; rw [ho] at h; exact h
     have hp := H2.out.2.2
     rw [ho, bind_ok] at hp
     obtain ⟨⟨vp, k, nm, f, u, vq, vk, vb, va, rfl, hrow, hat⟩, hR, hg⟩ := h
     obtain ⟨ap, np, cp, rfl⟩ := hrow.slice
     obtain ⟨⟨ap1, np1, cp1, rfl⟩, ⟨ak, nk, ck, rfl⟩, ⟨ab, nb, cb, rfl⟩, ⟨aa, na, ca, rfl⟩⟩ := hat.slices
     have HO3 := Hd (own_kept HO2.out hg (fun e => by have := HQ.out.2.2.2.2.2 b e; omega))
     have hsz3 : w2.heap.size ≤ w3.heap.size := hg.size
     have hsz0 : w.heap.size ≤ w2.heap.size := H2.out.2.1.size
     have H3 := Hd (Ai hR (Ai (Gt H2.out.2.1 hg) (Ai hg (Ai hp (Ai hrow hat)))))
     have oneC : ∀ z ∈ ([.int .i64 a.1, .string (tx a.2.1), .bool a.2.2.1, .int .u64 a.2.2.2.1, .slice ap np cp, .int .i64 k, .string nm, .bool f, .int .u64 u, .slice ap1 np1 cp1, .slice ak nk ck, .slice ab nb cb, .slice aa na ca] : List Value), z.oneCell' = true := by intro z hz; simp at hz; rcases hz with rfl | rfl | rfl | rfl | rfl | rfl | rfl | rfl | rfl | rfl | rfl | rfl | rfl <;> rfl
     have m9 : acc.length + 1 ≤ maxLen := by unfold maxLen; omega
     have m8 : (acc.length + 1) * 200 ≤ 140737488355328 := by omega
     clear hR hg hp hrow hat HC ho HO2
     go_wp2_with (at_builtin; refine wpList_append_lies _ rfl _ _ 47 rfl w.heap.size 87 i0 (.agg #[.int .i64 0, .string ⟨#[]⟩, .bool false, .int .u64 0, .slice none 0 0, .int .i64 0, .string ⟨#[]⟩, .bool false, .int .u64 0, .slice none 0 0, .slice none 0 0, .slice none 0 0, .slice none 0 0]) 13 200 Tryz.underlying47 hi0 hz0 hzs hzb rfl (by decide) (.slice ax acc.length cx) acc.length cs rfl (HO3.out.alloc _) ⟨w3.heap.size, 0, none⟩ 1 1 [.int .i64 a.1, .string (tx a.2.1), .bool a.2.2.1, .int .u64 a.2.2.2.1, .slice ap np cp, .int .i64 k, .string nm, .bool f, .int .u64 u, .slice ap1 np1 cp1, .slice ak nk ck, .slice ab nb cb, .slice aa na ca] rfl rfl (World.news_of_block (heap_alloc_new _ _)) oneC (by decide) m9 m8 (by simp; omega) _ rfl ?_; intro g9 cap9 w9 o1 o2 o3 o4)
     have hxx := (Below.refl w3.heap.size w3).alloc Nr (.cells #[.int .i64 a.1, .string (tx a.2.1), .bool a.2.2.1, .int .u64 a.2.2.2.1, .slice ap np cp, .int .i64 k, .string nm, .bool f, .int .u64 u, .slice ap1 np1 cp1, .slice ak nk ck, .slice ab nb cb, .slice aa na ca] 87)
     have hlow : ∀ g, (Value.slice ax acc.length cx).ownBlock = some g → w.heap.size ≤ g := HQ.out.2.2.2.2.2
     obtain ⟨q9, hq, hg9⟩ := grown_some (b := b) o2 (fun g e => by have := hlow g e; omega)
     have hs5 := hxx.size
     refine ⟨⟨l2, r2, acc ++ [a], _, cs ++ [.int .i64 a.1, .string (tx a.2.1), .bool a.2.2.1, .int .u64 a.2.2.2.1, .slice ap np cp, .int .i64 k, .string nm, .bool f, .int .u64 u, .slice ap1 np1 cp1, .slice ak nk ck, .slice ab nb cb, .slice aa na ca], fu', rfl, (H3.out.1.later hxx).past hg9 hq, grown_past (Gt H3.out.2.1 (grown_of hxx)) o2 hlow, by omega, H3.out.2.2.2.1, by simp; omega, by simp, by simpa using o1, ?_⟩, by simp [lenOf]; omega⟩
     have hfar : ∀ g, w2.heap.size ≤ g → g < w3.heap.size → (w.heap.size ≤ g ∧ some g ≠ (Value.slice (some ⟨g9, 0, none⟩) (acc.length + 1) cap9).ownBlock) ∧ w9.heap[g]? = w3.heap[g]? := by
      intro g h1 h2
      have hne9 : some g ≠ (Value.slice ax acc.length cx).ownBlock := fun e => by have := HEx.out.1 g e.symm; omega
      refine ⟨⟨by omega, fun e => ?_⟩, (o2.block g (by omega) hne9).trans (hxx.block g (by omega))⟩
      rcases o3 with h | h
      ·exact hne9 (e.trans h.symm)
      ·have := Oi e
       simp at this h
       omega
     refine AltsAt.snoc (HEx.out.2.move (fun g hg lt => ?_)) (H3.out.2.2.2.2.1.move (fun g hg lt => hfar g hg lt)) (H3.out.2.2.2.2.2.move (fun g hg lt => hfar g hg lt))
     refine ⟨⟨hg.1, fun e => ?_⟩, ((o2.block g (by omega) hg.2).trans (hxx.block g (by omega))).trans (H3.out.2.2.1.block g (by omega) (by have := hg.1; simp; omega))⟩
     rcases o3 with h | h
     ·exact hg.2 (e.trans h.symm)
     ·have := Oi e
      simp at this h
      omega
   ·have hN : moreO (altO (exprO n d)) (fu' + 1) acc l' r' = .ok acc l' r' := by
     conv => lhs; unfold moreO
     exact if_neg gs
    have hN2 := HQ.out.2.2.1
    rw [hN] at hN2
    have H2 := Hd (Ai (HQ.out.1.later hb) (Ai (Gt HQ.out.2.1 (grown_of (b := b) hb)) (Ai hN2 (Ai (own_below HQ.out.2.2.2.1 hb) hb))))
    clear hN hN2 gs HS c0 c1 hb
    go_wp2_with fail
    refine bodyPost_ret (v := .slice ax acc.length cx) (by simp [results, Tryz.results88, go_sem]) rfl ?_
    rw [← H2.out.2.2.1]
    exact ⟨⟨_, cs, rfl, H2.out.2.2.2.1, HQ.out.2.2.2.2.1.move (fun g hg lt => ⟨hg.1, H2.out.2.2.2.2.block g lt⟩)⟩, H2.out.1, H2.out.2.1⟩
end Go.Proofs.YtbnmmbjajheedaaGreatDoor
