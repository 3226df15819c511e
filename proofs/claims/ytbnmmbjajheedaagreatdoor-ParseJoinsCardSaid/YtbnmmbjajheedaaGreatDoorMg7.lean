import Derived.RegionDies
import Derived.Test.YtbnmmbjajheedaaGreatDoorMg6
namespace Go.Proofs.YtbnmmbjajheedaaGreatDoor
set_option maxHeartbeats 64000000
set_option maxRecDepth 100000
open Go.RowKit Go.Lib
theorem rows_any (b me ma : Nat) (B : Bx) (n d : Nat) (hEx : ExprC b me ma B n d) (last : Int) (rest : List Tok) (hn : rest.length ≤ n) (hL : rest.length ≤ 4096) (w : World) (hC : Ctx w b me ma B) (hR : Rdr w b me ma last rest d) : Calls Tryz.prog 55 #[.pointer (some ⟨b, 0, none⟩)] w (OutSaid b me ma d (ExV w.heap.size) (rowsO (exprO n d) last rest) w) := by
 have hlt : b < w.heap.size := Bl hR.c1
 have hx := (Below.refl w.heap.size w).alloc Nr (.cells #[.int .i64 0, .string ⟨#[]⟩, .bool false, .int .u64 0, .slice none 0 0, .slice none 0 0, .slice none 0 0, .slice none 0 0] 49)
 have HX := Hd (Ai hx (Ai (hR.later hx) (Ai (box8 w b hlt) (hC.later (grown_of hx)))))
 clear hx hR
 go_enter Tryz.func55, Tryz.ntmps55
 go_upto_region 1 with fail
 generalize (w.alloc (.cells #[.int .i64 0, .string ⟨#[]⟩, .bool false, .int .u64 0, .slice none 0 0, .slice none 0 0, .slice none 0 0, .slice none 0 0] 49)) = W at *
 have hsz0 : w.heap.size + 1 ≤ W.heap.size := Bl (HX.out.2.2.1 W (grown_of Br)).1
 have HP := Hd (show rowsO (exprO n d) last rest = (rowO (exprO n d) last rest).bind (fun a l r => if shapeL r = sSign then (takeO l r).bind fun t l2 r2 => (rowO (exprO n d) l2 r2).bind fun b l3 r3 => .ok (.mk 5 t.1.t false 0 [] [a, b] [] []) l3 r3 else .ok a l r) from rfl)
 have HC := Hd (row_any b me ma B n d hEx last rest hn hL W HX.out.2.2.2 HX.out.2.1)
 go_wp2_with fail
 refine HC.out.mono ?_
 rintro e w3 h3
 cases ho : rowO (exprO n d) last rest with
 | bad er ln =>
  rw [ho] at h3
  obtain ⟨hbr, hg3⟩ := h3
  have hp := HP.out
  rw [ho] at hp
  have H3 := Hd (Ai hp (Gt (grown_of (b := b) HX.out.1) hg3))
  unfold Broken at hbr
  subst hbr
  clear hg3 ho hp HC
  go_wp2_with fail
  refine ⟨rfl, ?_⟩
  rw [H3.out.1]
  exact ⟨rfl, H3.out.2⟩
 | ok a l r =>
  rw [ho] at h3
  obtain ⟨⟨k, nm, f, u, vp, vk, vb, va, rfl, hat⟩, hR3, hg3⟩ := h3
  obtain ⟨⟨ap, np, cp, rfl⟩, ⟨ak, nk, ck, rfl⟩, ⟨ab, nb, cb, rfl⟩, ⟨aa, na, ca, rfl⟩⟩ := hat.slices
  have hp := HP.out
  rw [ho, bind_ok] at hp
  have hst : r.length ≤ rest.length := by have h := row_shrinks (expr_shrinks n d) last rest; rw [ho] at h; exact h
  have hy3 := (Below.refl w3.heap.size w3).alloc Nr (.cells #[.int .i64 k, .string nm, .bool f, .int .u64 u, .slice ap np cp, .slice ak nk ck, .slice ab nb cb, .slice aa na ca] 49)
  have hgW := Gt hg3 (grown_of (b := b) hy3)
  have hsz3 : W.heap.size ≤ w3.heap.size := hg3.size
  have hb3 : b < w3.heap.size := by omega
  have hBq := BoxW.alloc w3 #[.int .i64 k, .string nm, .bool f, .int .u64 u, .slice ap np cp, .slice ak nk ck, .slice ab nb cb, .slice aa na ca] 49
  have H3 := Hd (Ai hp (Ai (hR3.later hy3) (Ai hgW (Ai (HX.out.2.2.2.later hgW) (Ai hat (Ai hy3 hBq))))))
  have hszq : w3.heap.size + 1 ≤ (w3.alloc (.cells #[.int .i64 k, .string nm, .bool f, .int .u64 u, .slice ap np cp, .slice ak nk ck, .slice ab nb cb, .slice aa na ca] 49)).heap.size := by simp
  clear HP HC ho hp hR3 hg3 hat hgW hy3 hBq
  go_upto_region 2 with fail
  generalize (w3.alloc (.cells #[.int .i64 k, .string nm, .bool f, .int .u64 u, .slice ap np cp, .slice ak nk ck, .slice ab nb cb, .slice aa na ca] 49)) = W4 at *
  have HA := Hd (isAhead_any b me ma l r d sSign W4 H3.out.2.1)
  have c0 := H3.out.2.2.2.1.env.sign.1.1
  have c1 := H3.out.2.2.2.1.env.sign.1.2
  go_wp2_with fail
  refine HA.out.mono ?_
  rintro e w5 ⟨rfl, hb5⟩
  have hgW5 := Gt H3.out.2.2.1 (grown_of (b := b) hb5)
  have hBq := H3.out.2.2.2.2.2.2.below hb5
  have H5 := Hd (Ai hb5 (Ai hgW5 (Ai hBq (H3.out.2.1.later hb5))))
  have hsz5 : W4.heap.size ≤ w5.heap.size := hb5.size
  clear HA hb5 hgW5 c0 c1
  by_cases gs : shapeL r = sSign
  ·rw [decide_eq_true gs]
   obtain ⟨y, r1, rfl⟩ := take_of gs (by decide)
   have hp := H3.out.1
   rw [if_pos gs] at hp
   rw [show takeO l (y :: r1) = .ok y y.2 r1 from rfl, bind_ok] at hp
   have HP := Hd hp
   have HT := Hd (take_any b me ma l y r1 d w5 H5.out.2.2.2)
   clear hp gs hBq
   go_upto_region 5 with (go_at_call 92; refine HT.out.mono ?_; rintro e w6 ⟨rfl, hR6, hg6⟩; have hf1 := fun W => tok_field1 y.1.k (tx y.1.t) y.1.f y.1.x y.2 W; have H6 := Hd (Ai hR6 hg6); clear hR6 hg6 HT)
   have hgW6 := Gt H5.out.2.1 H6.out.2
   have hBq := H5.out.2.2.1.grown H6.out.2 (by omega)
   have q0 : w6.cell? ⟨w3.heap.size, 0, none⟩ = some _ := hBq.1 0 _ rfl
   have q1 : w6.cell? ⟨w3.heap.size, 1, none⟩ = some _ := hBq.1 1 _ rfl
   have q2 : w6.cell? ⟨w3.heap.size, 2, none⟩ = some _ := hBq.1 2 _ rfl
   have q3 : w6.cell? ⟨w3.heap.size, 3, none⟩ = some _ := hBq.1 3 _ rfl
   have q4 : w6.cell? ⟨w3.heap.size, 4, none⟩ = some _ := hBq.1 4 _ rfl
   have q5 : w6.cell? ⟨w3.heap.size, 5, none⟩ = some _ := hBq.1 5 _ rfl
   have q6 : w6.cell? ⟨w3.heap.size, 6, none⟩ = some _ := hBq.1 6 _ rfl
   have q7 : w6.cell? ⟨w3.heap.size, 7, none⟩ = some _ := hBq.1 7 _ rfl
   have hsz6 : w5.heap.size ≤ w6.heap.size := H6.out.2.size
   have HB := Hd (Ai hgW6 hBq)
   have hdr : Below w6.heap.size w6 w6.drew := (Below.refl w6.heap.size w6).drew
   have HR := Hd (row_any b me ma B n d hEx y.2 r1 (by simp only [List.length_cons] at hst; omega) (by simp only [List.length_cons] at hst; omega) w6.drew ((HX.out.2.2.2.later hgW6).later (grown_of hdr)) (H6.out.1.later hdr))
   have hdd := Hd hdr
   clear hgW6 hBq hdr
   cases ho : rowO (exprO n d) y.2 r1 with
   | bad er ln =>
    have hp := HP.out
    rw [ho, bind_bad] at hp
    have HP2 := Hd hp
    rw [ho] at HR
    clear hp ho HP
    go_region_dies
    all_goals
     (go_at_call 91; refine HR.out.mono ?_; rintro e w7 ⟨hbr, hg7⟩; unfold Broken at hbr; subst hbr; go_wp2_with fail; exact ⟨rfl, by rw [HP2.out]; exact ⟨rfl, Gt (Gt (grown_of (b := b) HX.out.1) (Gt HB.out.1 (grown_of (b := b) hdd.out))) hg7⟩⟩)
   | ok a2 l2 r2 =>
    have hp := HP.out
    rw [ho, bind_ok] at hp
    have HP2 := Hd hp
    rw [ho] at HR
    clear hp ho HP
    go_region_with (go_at_call 91; refine HR.out.mono ?_; rintro e w7 ⟨⟨k2, nm2, f2, u2, vp2, vk2, vb2, va2, rfl, hat2⟩, hR7, hg7'⟩; obtain ⟨⟨ap2, np2, cp2, rfl⟩, ⟨ak2, nk2, ck2, rfl⟩, ⟨ab2, nb2, cb2, rfl⟩, ⟨aa2, na2, ca2, rfl⟩⟩ := hat2.slices; have hg7 : w6.grownBy w7 (some b) := Gt (grown_of (b := b) hdd.out) hg7'; have hBq := HB.out.2.grown hg7 (by omega); have q0 := hBq.1 0 _ rfl; have q1 := hBq.1 1 _ rfl; have q2 := hBq.1 2 _ rfl; have q3 := hBq.1 3 _ rfl; have q4 := hBq.1 4 _ rfl; have q5 := hBq.1 5 _ rfl; have q6 := hBq.1 6 _ rfl; have q7 := hBq.1 7 _ rfl; have hy7 := (Below.refl w7.heap.size w7).alloc Nr (.cells #[.int .i64 k, .string nm, .bool f, .int .u64 u, .slice ap np cp, .slice ak nk ck, .slice ab nb cb, .slice aa na ca, .int .i64 k2, .string nm2, .bool f2, .int .u64 u2, .slice ap2 np2 cp2, .slice ak2 nk2 ck2, .slice ab2 nb2 cb2, .slice aa2 na2 ca2] 49); obtain ⟨d0, d1, d2, d3, d4, d5, d6, d7, z0, z1, z2, z3, z4, z5, z6, z7⟩ := HX.out.2.2.1 _ (Gt (Gt HB.out.1 hg7) (grown_of (b := b) hy7)); have H7 := Hd (Ai hR7 (Ai hg7 (Ai hat2 hg7'))); clear hR7 hg7 hat2 hBq hg7')
    all_goals
     go_wp2_with fail
     obtain ⟨v0, v1, v2, v3, v4, v5, v6, v7⟩ := set8 d0 d1 d2 d3 d4 d5 d6 d7 (.int .i64 5) (.string (tx y.1.t)) (.bool false) (.int .u64 0) (.slice none 0 0) (.slice (some ⟨w7.heap.size, 0, none⟩) 2 2) (.slice none 0 0) (.slice none 0 0)
     refine bodyPost_ret (v := .agg #[.int .i64 5, .string (tx y.1.t), .bool false, .int .u64 0, .slice none 0 0, .slice (some ⟨w7.heap.size, 0, none⟩) 2 2, .slice none 0 0, .slice none 0 0]) (by simp [results, Tryz.results55, go_sem, v0, v1, v2, v3, v4, v5, v6, v7]) rfl ?_
     rw [HP2.out]
     have hs6 : w6.drew.heap.size = w6.heap.size := rfl
     have hs7 : w6.heap.size ≤ w7.heap.size := H7.out.2.1.size
     have hs := Or.inl (a := w.heap.size < W.heap.size) (b := w3.heap.size ≤ w.heap.size) (by omega)
     have hs2 := Or.inl (a := w.heap.size < w6.drew.heap.size) (b := w7.heap.size ≤ w.heap.size) (by omega)
     have hs3 := Or.inl (a := w.heap.size < w7.heap.size) (b := (w7.alloc (.cells #[.int .i64 k, .string nm, .bool f, .int .u64 u, .slice ap np cp, .slice ak nk ck, .slice ab nb cb, .slice aa na ca, .int .i64 k2, .string nm2, .bool f2, .int .u64 u2, .slice ap2 np2 cp2, .slice ak2 nk2 ck2, .slice ab2 nb2 cb2, .slice aa2 na2 ca2] 49)).heap.size ≤ w.heap.size) (by omega)
     have hka : Kp W.heap.size w3.heap.size w3 w7 := (((Kp.below H3.out.2.2.2.2.2.1 Nr).trans (Kp.below H5.out.1 (by omega))).trans (Kp.grown H6.out.2 (by omega) (by omega))).trans (Kp.grown H7.out.2.1 (by omega) (by omega))
     refine ⟨⟨_, _, _, _, _, _, _, _, rfl, ?_⟩, (H7.out.1.later hy7).over8 hlt _ _ _ _ _ _ _ _, grown_new8 (Gt (Gt (Gt (grown_of (b := b) HX.out.1) HB.out.1) H7.out.2.1) (grown_of (b := b) hy7)) Nr _ _ _ _ _ _ _ _⟩
     refine ExAt.kids (xs := [a, a2]) (cs := [.int .i64 k, .string nm, .bool f, .int .u64 u, .slice ap np cp, .slice ak nk ck, .slice ab nb cb, .slice aa na ca, .int .i64 k2, .string nm2, .bool f2, .int .u64 u2, .slice ap2 np2 cp2, .slice ak2 nk2 ck2, .slice ab2 nb2 cb2, .slice aa2 na2 ca2]) 5 y.1.t ?_ (ExsAt.cons a [a2] [.int .i64 k, .string nm, .bool f, .int .u64 u, .slice ap np cp, .slice ak nk ck, .slice ab nb cb, .slice aa na ca] [.int .i64 k2, .string nm2, .bool f2, .int .u64 u2, .slice ap2 np2 cp2, .slice ak2 nk2 ck2, .slice ab2 nb2 cb2, .slice aa2 na2 ca2] (H3.out.2.2.2.2.1.kp ((hka.trans (Kp.below hy7 (by omega))).trans (Kp.set8 _ _ hs _ _ _ _ _ _ _ _)) (by omega)) (ExsAt.cons a2 [] [.int .i64 k2, .string nm2, .bool f2, .int .u64 u2, .slice ap2 np2 cp2, .slice ak2 nk2 ck2, .slice ab2 nb2 cb2, .slice aa2 na2 ca2] [] (H7.out.2.2.1.kp ((Kp.below hy7 Nr).trans (Kp.set8 _ _ hs2 _ _ _ _ _ _ _ _)) (by omega)) .nil))
     exact (RowAt.own (own_built (g := w7.heap.size) (base := w7.heap.size) (cs := #[.int .i64 k, .string nm, .bool f, .int .u64 u, .slice ap np cp, .slice ak nk ck, .slice ab nb cb, .slice aa na ca, .int .i64 k2, .string nm2, .bool f2, .int .u64 u2, .slice ap2 np2 cp2, .slice ak2 nk2 ck2, .slice ab2 nb2 cb2, .slice aa2 na2 ca2]) (heap_alloc_new _ _) Nr rfl (by decide))).kp (Kp.set8 _ _ hs3 _ _ _ _ _ _ _ _) (by omega)
  ·rw [decide_eq_false gs]
   have hp := H3.out.1
   rw [if_neg gs] at hp
   have HP := Hd hp
   have q0 : w5.cell? ⟨w3.heap.size, 0, none⟩ = some _ := hBq.1 0 _ rfl
   have q1 : w5.cell? ⟨w3.heap.size, 1, none⟩ = some _ := hBq.1 1 _ rfl
   have q2 : w5.cell? ⟨w3.heap.size, 2, none⟩ = some _ := hBq.1 2 _ rfl
   have q3 : w5.cell? ⟨w3.heap.size, 3, none⟩ = some _ := hBq.1 3 _ rfl
   have q4 : w5.cell? ⟨w3.heap.size, 4, none⟩ = some _ := hBq.1 4 _ rfl
   have q5 : w5.cell? ⟨w3.heap.size, 5, none⟩ = some _ := hBq.1 5 _ rfl
   have q6 : w5.cell? ⟨w3.heap.size, 6, none⟩ = some _ := hBq.1 6 _ rfl
   have q7 : w5.cell? ⟨w3.heap.size, 7, none⟩ = some _ := hBq.1 7 _ rfl
   obtain ⟨d0, d1, d2, d3, d4, d5, d6, d7, z0, z1, z2, z3, z4, z5, z6, z7⟩ := HX.out.2.2.1 w5 H5.out.2.1
   clear hp gs hBq
   go_wp2_with fail
   obtain ⟨v0, v1, v2, v3, v4, v5, v6, v7⟩ := set8 d0 d1 d2 d3 d4 d5 d6 d7 (.int .i64 k) (.string nm) (.bool f) (.int .u64 u) (.slice ap np cp) (.slice ak nk ck) (.slice ab nb cb) (.slice aa na ca)
   refine bodyPost_ret (v := .agg #[.int .i64 k, .string nm, .bool f, .int .u64 u, .slice ap np cp, .slice ak nk ck, .slice ab nb cb, .slice aa na ca]) (by simp [results, Tryz.results55, go_sem, v0, v1, v2, v3, v4, v5, v6, v7]) rfl ?_
   rw [HP.out]
   have hs := Or.inl (a := w.heap.size < W.heap.size) (b := w3.heap.size ≤ w.heap.size) (by omega)
   refine ⟨⟨_, _, _, _, _, _, _, _, rfl, ?_⟩, H5.out.2.2.2.over8 hlt _ _ _ _ _ _ _ _, grown_new8 (Gt (grown_of (b := b) HX.out.1) H5.out.2.1) Nr _ _ _ _ _ _ _ _⟩
   exact H3.out.2.2.2.2.1.kp (((Kp.below H3.out.2.2.2.2.2.1 Nr).trans (Kp.below H5.out.1 (by omega))).trans (Kp.set8 _ _ hs _ _ _ _ _ _ _ _)) (by omega)
def BndV (lo : Nat) (x : Bnd) (e : Ending) (w : World) : Prop :=
 ∃ vp k n f u vq vk vb va, e = .returned (.agg #[.string (tx x.1), vp, .int .i64 k, .string n, .bool f, .int .u64 u, vq, vk, vb, va]) ∧ RowAt w (fun g => lo ≤ g) 9 1 vp x.2.1.length (namesV x.2.1) ∧ ExAt w (fun g => lo ≤ g) x.2.2 [.int .i64 k, .string n, .bool f, .int .u64 u, vq, vk, vb, va]
theorem bind_any (b me ma : Nat) (B : Bx) (n d : Nat) (hEx : ExprC b me ma B n d) (last : Int) (rest : List Tok) (hn : rest.length ≤ n) (hL : rest.length ≤ 4096) (w : World) (hC : Ctx w b me ma B) (hR : Rdr w b me ma last rest d) : Calls Tryz.prog 61 #[.pointer (some ⟨b, 0, none⟩)] w (OutSaid b me ma d (BndV w.heap.size) (bindO (exprO n d) last rest) w) := by
 have hlt : b < w.heap.size := Bl hR.c1
 have hx := (Below.refl w.heap.size w).alloc Nr (.cells #[.string ⟨#[]⟩, .slice none 0 0, .int .i64 0, .string ⟨#[]⟩, .bool false, .int .u64 0, .slice none 0 0, .slice none 0 0, .slice none 0 0, .slice none 0 0] 51)
 have hBp := BoxW.alloc w #[.string ⟨#[]⟩, .slice none 0 0, .int .i64 0, .string ⟨#[]⟩, .bool false, .int .u64 0, .slice none 0 0, .slice none 0 0, .slice none 0 0, .slice none 0 0] 51
 have HX := Hd (Ai hx (Ai (hR.later hx) (Ai hBp (hC.later (grown_of hx)))))
 have c0 := HX.out.2.2.2.env.name.1.1
 have c1 := HX.out.2.2.2.env.name.1.2
 have hsz0 : w.heap.size + 1 ≤ (w.alloc (.cells #[.string ⟨#[]⟩, .slice none 0 0, .int .i64 0, .string ⟨#[]⟩, .bool false, .int .u64 0, .slice none 0 0, .slice none 0 0, .slice none 0 0, .slice none 0 0] 51)).heap.size := by simp
 clear hx hR hBp
 go_enter Tryz.func61, Tryz.ntmps61
 go_upto_region 1 with fail
 generalize (w.alloc (.cells #[.string ⟨#[]⟩, .slice none 0 0, .int .i64 0, .string ⟨#[]⟩, .bool false, .int .u64 0, .slice none 0 0, .slice none 0 0, .slice none 0 0, .slice none 0 0] 51)) = W at *
 have HP := Hd (show bindO (exprO n d) last rest = (wantO sName last rest).bind fun t l r => (wantO sEq (namesO l r []).2.1 (namesO l r []).2.2).bind fun _ l2 r2 => (exprO n d l2 r2).bind fun b l3 r3 => .ok (t.1.t, (namesO l r []).1, b) l3 r3 from rfl)
 have HC := Hd (want_any b me ma last rest d sName (by decide) W HX.out.2.1)
 go_wp2_with fail
 refine HC.out.mono ?_
 rintro e w3 h3
 cases ho : wantO sName last rest with
 | bad er ln =>
  rw [ho] at h3
  obtain ⟨hbr, hg3⟩ := h3
  have hp := HP.out
  rw [ho] at hp
  have H3 := Hd (Ai hp (Gt (grown_of (b := b) HX.out.1) hg3))
  unfold Broken at hbr
  subst hbr
  clear hg3 ho hp HC c0 c1
  go_wp2_with fail
  refine ⟨rfl, ?_⟩
  rw [H3.out.1]
  exact ⟨rfl, H3.out.2⟩
 | ok y l r =>
  rw [ho] at h3
  obtain ⟨rfl, hR3, hg3⟩ := h3
  have hp := HP.out
  rw [ho, bind_ok] at hp
  have hrr := wantO_less (by decide) ho
  subst hrr
  simp only [List.length_cons] at hn hL
  have hsz3 : W.heap.size ≤ w3.heap.size := hg3.size
  have hcs : w3.grownBy (w3.alloc (.cells #[.string (tx y.1.t), .slice none 0 0, .int .i64 0, .string ⟨#[]⟩, .bool false, .int .u64 0, .slice none 0 0, .slice none 0 0, .slice none 0 0, .slice none 0 0] 51)) (some b) := grown_of ((Below.refl w3.heap.size w3).alloc Nr _)
  have hgW := Gt hg3 hcs
  have hBq := BoxW.alloc w3 #[.string (tx y.1.t), .slice none 0 0, .int .i64 0, .string ⟨#[]⟩, .bool false, .int .u64 0, .slice none 0 0, .slice none 0 0, .slice none 0 0, .slice none 0 0] 51
  have hsz4 : w3.heap.size + 1 ≤ (w3.alloc (.cells #[.string (tx y.1.t), .slice none 0 0, .int .i64 0, .string ⟨#[]⟩, .bool false, .int .u64 0, .slice none 0 0, .slice none 0 0, .slice none 0 0, .slice none 0 0] 51)).heap.size := by simp
  have hR4 := hR3.later ((Below.refl w3.heap.size w3).alloc Nr (.cells #[.string (tx y.1.t), .slice none 0 0, .int .i64 0, .string ⟨#[]⟩, .bool false, .int .u64 0, .slice none 0 0, .slice none 0 0, .slice none 0 0, .slice none 0 0] 51))
  have hf1 := fun W => tok_field1 y.1.k (tx y.1.t) y.1.f y.1.x y.2 W
  have H3 := Hd (Ai hp (Ai hR4 (Ai hgW (Ai hBq (HX.out.2.2.2.later hgW)))))
  clear HP HC ho hp hR3 hg3 hcs hgW hBq hR4 c0 c1
  go_upto_region 2 with fail
  generalize (w3.alloc (.cells #[.string (tx y.1.t), .slice none 0 0, .int .i64 0, .string ⟨#[]⟩, .bool false, .int .u64 0, .slice none 0 0, .slice none 0 0, .slice none 0 0, .slice none 0 0] 51)) = W4 at *
  have HN := Hd (names_any b me ma l r d (by omega) W4 H3.out.2.2.2.2.env H3.out.2.1)
  clear hf1
  go_wp2_with fail
  refine HN.out.mono ?_
  rintro e w5 ⟨v, rfl, hR5, hg5, hown⟩
  obtain ⟨ao, co, rfl, hlow⟩ := own_shape hown
  have hnl := names_less r l []
  have hBq := H3.out.2.2.2.1.grown hg5 (by omega)
  have hsz5 : W4.heap.size ≤ w5.heap.size := hg5.size
  have hgW := Gt H3.out.2.2.1 hg5
  have H5 := Hd (Ai hR5 (Ai hgW (Ai hBq (Ai hown hg5))))
  have z1 := hBq.2 1
  have q0 : w5.cell? ⟨w3.heap.size, 0, none⟩ = some _ := hBq.1 0 _ rfl
  have q1 : w5.cell? ⟨w3.heap.size, 1, none⟩ = some _ := hBq.1 1 _ rfl
  clear HN hR5 hg5 hBq hgW hown hlow
  go_upto_region 3 with fail
  have hBq := H5.out.2.2.1.set 1 (show 1 < 10 by decide) (.slice ao (namesO l r []).1.length co)
  have hgW := grown_new H5.out.2.1 (p := w3.heap.size) (i := 1) (by omega) (.slice ao (namesO l r []).1.length co)
  have hR6 := H5.out.1.over (p := w3.heap.size) (i := 1) (by omega) (.slice ao (namesO l r []).1.length co)
  have hkn : Kp W4.heap.size w5.heap.size w5 (w5.setCell ⟨w3.heap.size, 1, none⟩ (.slice ao (namesO l r []).1.length co)) := Kp.set _ _ _ _ (Or.inl (by omega))
  have hsz6 : w5.heap.size ≤ (w5.setCell ⟨w3.heap.size, 1, none⟩ (.slice ao (namesO l r []).1.length co)).heap.size := by simp
  have H6 := Hd (Ai hR6 (Ai hgW (Ai hBq (Ai hkn (HX.out.2.2.2.later hgW)))))
  clear q0 q1 z1 hR6 hgW hBq hkn
  generalize (w5.setCell ⟨w3.heap.size, 1, none⟩ (.slice ao (namesO l r []).1.length co)) = W6 at *
  have c0 := H6.out.2.2.2.2.env.eq.1.1
  have c1 := H6.out.2.2.2.2.env.eq.1.2
  have HP := Hd H3.out.1
  have HC := Hd (want_any b me ma (namesO l r []).2.1 (namesO l r []).2.2 d sEq (by decide) W6 H6.out.1)
  go_wp2_with fail
  refine HC.out.mono ?_
  rintro e w7 h7
  cases ho : wantO sEq (namesO l r []).2.1 (namesO l r []).2.2 with
  | bad er ln =>
   rw [ho] at h7
   obtain ⟨hbr, hg7⟩ := h7
   have hp := HP.out
   rw [ho] at hp
   have H7 := Hd (Ai hp (Gt (Gt (grown_of (b := b) HX.out.1) H6.out.2.1) hg7))
   unfold Broken at hbr
   subst hbr
   clear hg7 ho hp HC c0 c1
   go_wp2_with fail
   refine ⟨rfl, ?_⟩
   rw [H7.out.1]
   exact ⟨rfl, H7.out.2⟩
  | ok y2 l2 r2 =>
   rw [ho] at h7
   obtain ⟨rfl, hR7, hg7⟩ := h7
   have hp := HP.out
   rw [ho, bind_ok] at hp
   have hr2 := congrArg List.length (wantO_less (by decide) ho)
   simp only [List.length_cons] at hr2
   have hsz7 : W6.heap.size ≤ w7.heap.size := hg7.size
   have hgW := Gt H6.out.2.1 hg7
   have H7 := Hd (Ai hR7 (Ai hgW (Ai (H6.out.2.2.1.grown hg7 (by omega)) (Ai hg7 (HX.out.2.2.2.later hgW)))))
   have HP2 := Hd hp
   clear HP HC ho hp hR7 hg7 hgW c0 c1
   have HP := HP2
   clear HP2
   have HC := Hd (hEx l2 r2 w7 (by omega) (by omega) H7.out.2.2.2.2 H7.out.1)
   go_wp2_with fail
   refine HC.out.mono ?_
   rintro e w8 h8
   cases ho : exprO n d l2 r2 with
   | bad er ln =>
    rw [ho] at h8
    obtain ⟨hbr, hg8⟩ := h8
    have hp := HP.out
    rw [ho] at hp
    have H8 := Hd (Ai hp (Gt (Gt (grown_of (b := b) HX.out.1) H7.out.2.1) hg8))
    unfold Broken at hbr
    subst hbr
    clear hg8 ho hp HC
    go_wp2_with fail
    refine ⟨rfl, ?_⟩
    rw [H8.out.1]
    exact ⟨rfl, H8.out.2⟩
   | ok a3 l3 r3 =>
    rw [ho] at h8
    obtain ⟨⟨k3, nm3, f3, u3, vp, vk, vb, va, rfl, hat⟩, hR8, hg8⟩ := h8
    obtain ⟨⟨ap3, np3, cp3, rfl⟩, ⟨ak3, nk3, ck3, rfl⟩, ⟨ab3, nb3, cb3, rfl⟩, ⟨aa3, na3, ca3, rfl⟩⟩ := hat.slices
    have hp := HP.out
    rw [ho, bind_ok] at hp
    have hsz8 : w7.heap.size ≤ w8.heap.size := hg8.size
    have hBq := H7.out.2.2.1.grown hg8 (by omega)
    have hgW := Gt H7.out.2.1 hg8
    have H8 := Hd (Ai hp (Ai hR8 (Ai hgW (Ai hBq (Ai hg8 hat)))))
    have q0 : w8.cell? ⟨w3.heap.size, 0, none⟩ = some _ := hBq.1 0 _ rfl
    have q1 : w8.cell? ⟨w3.heap.size, 1, none⟩ = some _ := hBq.1 1 _ rfl
    have q2 : w8.cell? ⟨w3.heap.size, 2, none⟩ = some _ := hBq.1 2 _ rfl
    have q3 : w8.cell? ⟨w3.heap.size, 3, none⟩ = some _ := hBq.1 3 _ rfl
    have q4 : w8.cell? ⟨w3.heap.size, 4, none⟩ = some _ := hBq.1 4 _ rfl
    have q5 : w8.cell? ⟨w3.heap.size, 5, none⟩ = some _ := hBq.1 5 _ rfl
    have q6 : w8.cell? ⟨w3.heap.size, 6, none⟩ = some _ := hBq.1 6 _ rfl
    have q7 : w8.cell? ⟨w3.heap.size, 7, none⟩ = some _ := hBq.1 7 _ rfl
    have q8 : w8.cell? ⟨w3.heap.size, 8, none⟩ = some _ := hBq.1 8 _ rfl
    have q9 : w8.cell? ⟨w3.heap.size, 9, none⟩ = some _ := hBq.1 9 _ rfl
    have z0 : w8.frozen? ⟨w3.heap.size, 0, none⟩ = false := hBq.2 0
    have z1 : w8.frozen? ⟨w3.heap.size, 1, none⟩ = false := hBq.2 1
    have z2 : w8.frozen? ⟨w3.heap.size, 2, none⟩ = false := hBq.2 2
    have z3 : w8.frozen? ⟨w3.heap.size, 3, none⟩ = false := hBq.2 3
    have z4 : w8.frozen? ⟨w3.heap.size, 4, none⟩ = false := hBq.2 4
    have z5 : w8.frozen? ⟨w3.heap.size, 5, none⟩ = false := hBq.2 5
    have z6 : w8.frozen? ⟨w3.heap.size, 6, none⟩ = false := hBq.2 6
    have z7 : w8.frozen? ⟨w3.heap.size, 7, none⟩ = false := hBq.2 7
    have z8 : w8.frozen? ⟨w3.heap.size, 8, none⟩ = false := hBq.2 8
    have z9 : w8.frozen? ⟨w3.heap.size, 9, none⟩ = false := hBq.2 9
    clear HP HC ho hp hR8 hg8 hgW hBq hat
    go_upto_region 5 with fail
    have hBq := ((((((((H8.out.2.2.2.1).set 2 (show 2 < 10 by decide) (.int .i64 k3)).set 3 (show 3 < 10 by decide) (.string nm3)).set 4 (show 4 < 10 by decide) (.bool f3)).set 5 (show 5 < 10 by decide) (.int .u64 u3)).set 6 (show 6 < 10 by decide) (.slice ap3 np3 cp3)).set 7 (show 7 < 10 by decide) (.slice ak3 nk3 ck3)).set 8 (show 8 < 10 by decide) (.slice ab3 nb3 cb3)).set 9 (show 9 < 10 by decide) (.slice aa3 na3 ca3)
    have hgW : W.grownBy ((((((((w8.setCell ⟨w3.heap.size, 2, none⟩ (.int .i64 k3)).setCell ⟨w3.heap.size, 3, none⟩ (.string nm3)).setCell ⟨w3.heap.size, 4, none⟩ (.bool f3)).setCell ⟨w3.heap.size, 5, none⟩ (.int .u64 u3)).setCell ⟨w3.heap.size, 6, none⟩ (.slice ap3 np3 cp3)).setCell ⟨w3.heap.size, 7, none⟩ (.slice ak3 nk3 ck3)).setCell ⟨w3.heap.size, 8, none⟩ (.slice ab3 nb3 cb3)).setCell ⟨w3.heap.size, 9, none⟩ (.slice aa3 na3 ca3)) (some b) := (grown_new (grown_new (grown_new (grown_new (grown_new (grown_new (grown_new (grown_new H8.out.2.2.1 (show W.heap.size ≤ w3.heap.size by omega) _) (show W.heap.size ≤ w3.heap.size by omega) _) (show W.heap.size ≤ w3.heap.size by omega) _) (show W.heap.size ≤ w3.heap.size by omega) _) (show W.heap.size ≤ w3.heap.size by omega) _) (show W.heap.size ≤ w3.heap.size by omega) _) (show W.heap.size ≤ w3.heap.size by omega) _) (show W.heap.size ≤ w3.heap.size by omega) _)
    have hR9 : Rdr ((((((((w8.setCell ⟨w3.heap.size, 2, none⟩ (.int .i64 k3)).setCell ⟨w3.heap.size, 3, none⟩ (.string nm3)).setCell ⟨w3.heap.size, 4, none⟩ (.bool f3)).setCell ⟨w3.heap.size, 5, none⟩ (.int .u64 u3)).setCell ⟨w3.heap.size, 6, none⟩ (.slice ap3 np3 cp3)).setCell ⟨w3.heap.size, 7, none⟩ (.slice ak3 nk3 ck3)).setCell ⟨w3.heap.size, 8, none⟩ (.slice ab3 nb3 cb3)).setCell ⟨w3.heap.size, 9, none⟩ (.slice aa3 na3 ca3)) b me ma l3 r3 d := ((((((((H8.out.2.1).over (show b < w3.heap.size by omega) _).over (show b < w3.heap.size by omega) _).over (show b < w3.heap.size by omega) _).over (show b < w3.heap.size by omega) _).over (show b < w3.heap.size by omega) _).over (show b < w3.heap.size by omega) _).over (show b < w3.heap.size by omega) _).over (show b < w3.heap.size by omega) _
    have hkn : Kp W4.heap.size w5.heap.size w5 ((((((((w8.setCell ⟨w3.heap.size, 2, none⟩ (.int .i64 k3)).setCell ⟨w3.heap.size, 3, none⟩ (.string nm3)).setCell ⟨w3.heap.size, 4, none⟩ (.bool f3)).setCell ⟨w3.heap.size, 5, none⟩ (.int .u64 u3)).setCell ⟨w3.heap.size, 6, none⟩ (.slice ap3 np3 cp3)).setCell ⟨w3.heap.size, 7, none⟩ (.slice ak3 nk3 ck3)).setCell ⟨w3.heap.size, 8, none⟩ (.slice ab3 nb3 cb3)).setCell ⟨w3.heap.size, 9, none⟩ (.slice aa3 na3 ca3)) := ((H6.out.2.2.2.1.trans (Kp.grown H7.out.2.2.2.1 (by omega) (by omega))).trans (Kp.grown H8.out.2.2.2.2.1 (by omega) (by omega))).trans (((((((((((((((Kp.set _ _ _ _ (Or.inl (by omega)))).trans (Kp.set _ _ _ _ (Or.inl (by omega))))).trans (Kp.set _ _ _ _ (Or.inl (by omega))))).trans (Kp.set _ _ _ _ (Or.inl (by omega))))).trans (Kp.set _ _ _ _ (Or.inl (by omega))))).trans (Kp.set _ _ _ _ (Or.inl (by omega))))).trans (Kp.set _ _ _ _ (Or.inl (by omega))))).trans (Kp.set _ _ _ _ (Or.inl (by omega))))
    have hke : Kp w7.heap.size w8.heap.size w8 ((((((((w8.setCell ⟨w3.heap.size, 2, none⟩ (.int .i64 k3)).setCell ⟨w3.heap.size, 3, none⟩ (.string nm3)).setCell ⟨w3.heap.size, 4, none⟩ (.bool f3)).setCell ⟨w3.heap.size, 5, none⟩ (.int .u64 u3)).setCell ⟨w3.heap.size, 6, none⟩ (.slice ap3 np3 cp3)).setCell ⟨w3.heap.size, 7, none⟩ (.slice ak3 nk3 ck3)).setCell ⟨w3.heap.size, 8, none⟩ (.slice ab3 nb3 cb3)).setCell ⟨w3.heap.size, 9, none⟩ (.slice aa3 na3 ca3)) := (((((((((((((((Kp.set _ _ _ _ (Or.inl (by omega)))).trans (Kp.set _ _ _ _ (Or.inl (by omega))))).trans (Kp.set _ _ _ _ (Or.inl (by omega))))).trans (Kp.set _ _ _ _ (Or.inl (by omega))))).trans (Kp.set _ _ _ _ (Or.inl (by omega))))).trans (Kp.set _ _ _ _ (Or.inl (by omega))))).trans (Kp.set _ _ _ _ (Or.inl (by omega))))).trans (Kp.set _ _ _ _ (Or.inl (by omega))))
    have hsz9 : w8.heap.size ≤ ((((((((w8.setCell ⟨w3.heap.size, 2, none⟩ (.int .i64 k3)).setCell ⟨w3.heap.size, 3, none⟩ (.string nm3)).setCell ⟨w3.heap.size, 4, none⟩ (.bool f3)).setCell ⟨w3.heap.size, 5, none⟩ (.int .u64 u3)).setCell ⟨w3.heap.size, 6, none⟩ (.slice ap3 np3 cp3)).setCell ⟨w3.heap.size, 7, none⟩ (.slice ak3 nk3 ck3)).setCell ⟨w3.heap.size, 8, none⟩ (.slice ab3 nb3 cb3)).setCell ⟨w3.heap.size, 9, none⟩ (.slice aa3 na3 ca3)).heap.size := by simp
    clear q0 z0 q1 z1 q2 z2 q3 z3 q4 z4 q5 z5 q6 z6 q7 z7 q8 z8 q9 z9
    generalize ((((((((w8.setCell ⟨w3.heap.size, 2, none⟩ (.int .i64 k3)).setCell ⟨w3.heap.size, 3, none⟩ (.string nm3)).setCell ⟨w3.heap.size, 4, none⟩ (.bool f3)).setCell ⟨w3.heap.size, 5, none⟩ (.int .u64 u3)).setCell ⟨w3.heap.size, 6, none⟩ (.slice ap3 np3 cp3)).setCell ⟨w3.heap.size, 7, none⟩ (.slice ak3 nk3 ck3)).setCell ⟨w3.heap.size, 8, none⟩ (.slice ab3 nb3 cb3)).setCell ⟨w3.heap.size, 9, none⟩ (.slice aa3 na3 ca3)) = W9 at *
    have hBp : BoxW W9 w.heap.size [.string ⟨#[]⟩, .slice none 0 0, .int .i64 0, .string ⟨#[]⟩, .bool false, .int .u64 0, .slice none 0 0, .slice none 0 0, .slice none 0 0, .slice none 0 0] := boxw_grown HX.out.2.2.1 hgW (by omega)
    have q0 : W9.cell? ⟨w3.heap.size, 0, none⟩ = some _ := hBq.1 0 _ rfl
    have q1 : W9.cell? ⟨w3.heap.size, 1, none⟩ = some _ := hBq.1 1 _ rfl
    have q2 : W9.cell? ⟨w3.heap.size, 2, none⟩ = some _ := hBq.1 2 _ rfl
    have q3 : W9.cell? ⟨w3.heap.size, 3, none⟩ = some _ := hBq.1 3 _ rfl
    have q4 : W9.cell? ⟨w3.heap.size, 4, none⟩ = some _ := hBq.1 4 _ rfl
    have q5 : W9.cell? ⟨w3.heap.size, 5, none⟩ = some _ := hBq.1 5 _ rfl
    have q6 : W9.cell? ⟨w3.heap.size, 6, none⟩ = some _ := hBq.1 6 _ rfl
    have q7 : W9.cell? ⟨w3.heap.size, 7, none⟩ = some _ := hBq.1 7 _ rfl
    have q8 : W9.cell? ⟨w3.heap.size, 8, none⟩ = some _ := hBq.1 8 _ rfl
    have q9 : W9.cell? ⟨w3.heap.size, 9, none⟩ = some _ := hBq.1 9 _ rfl
    have d0 : W9.cell? ⟨w.heap.size, 0, none⟩ = some _ := hBp.1 0 _ rfl
    have d1 : W9.cell? ⟨w.heap.size, 1, none⟩ = some _ := hBp.1 1 _ rfl
    have d2 : W9.cell? ⟨w.heap.size, 2, none⟩ = some _ := hBp.1 2 _ rfl
    have d3 : W9.cell? ⟨w.heap.size, 3, none⟩ = some _ := hBp.1 3 _ rfl
    have d4 : W9.cell? ⟨w.heap.size, 4, none⟩ = some _ := hBp.1 4 _ rfl
    have d5 : W9.cell? ⟨w.heap.size, 5, none⟩ = some _ := hBp.1 5 _ rfl
    have d6 : W9.cell? ⟨w.heap.size, 6, none⟩ = some _ := hBp.1 6 _ rfl
    have d7 : W9.cell? ⟨w.heap.size, 7, none⟩ = some _ := hBp.1 7 _ rfl
    have d8 : W9.cell? ⟨w.heap.size, 8, none⟩ = some _ := hBp.1 8 _ rfl
    have d9 : W9.cell? ⟨w.heap.size, 9, none⟩ = some _ := hBp.1 9 _ rfl
    have z0 : W9.frozen? ⟨w.heap.size, 0, none⟩ = false := hBp.2 0
    have z1 : W9.frozen? ⟨w.heap.size, 1, none⟩ = false := hBp.2 1
    have z2 : W9.frozen? ⟨w.heap.size, 2, none⟩ = false := hBp.2 2
    have z3 : W9.frozen? ⟨w.heap.size, 3, none⟩ = false := hBp.2 3
    have z4 : W9.frozen? ⟨w.heap.size, 4, none⟩ = false := hBp.2 4
    have z5 : W9.frozen? ⟨w.heap.size, 5, none⟩ = false := hBp.2 5
    have z6 : W9.frozen? ⟨w.heap.size, 6, none⟩ = false := hBp.2 6
    have z7 : W9.frozen? ⟨w.heap.size, 7, none⟩ = false := hBp.2 7
    have z8 : W9.frozen? ⟨w.heap.size, 8, none⟩ = false := hBp.2 8
    have z9 : W9.frozen? ⟨w.heap.size, 9, none⟩ = false := hBp.2 9
    have H9 := Hd (Ai hR9 (Ai hgW (Ai hBp (Ai hkn hke))))
    clear hR9 hgW hBp hkn hke hBq
    go_wp2_with fail
    have hF := ((((((((((H9.out.2.2.1).set 0 (show 0 < 10 by decide) (.string (tx y.1.t))).set 1 (show 1 < 10 by decide) (.slice ao (namesO l r []).1.length co)).set 2 (show 2 < 10 by decide) (.int .i64 k3)).set 3 (show 3 < 10 by decide) (.string nm3)).set 4 (show 4 < 10 by decide) (.bool f3)).set 5 (show 5 < 10 by decide) (.int .u64 u3)).set 6 (show 6 < 10 by decide) (.slice ap3 np3 cp3)).set 7 (show 7 < 10 by decide) (.slice ak3 nk3 ck3)).set 8 (show 8 < 10 by decide) (.slice ab3 nb3 cb3)).set 9 (show 9 < 10 by decide) (.slice aa3 na3 ca3)
    have v0 := hF.1 0 _ rfl
    have v1 := hF.1 1 _ rfl
    have v2 := hF.1 2 _ rfl
    have v3 := hF.1 3 _ rfl
    have v4 := hF.1 4 _ rfl
    have v5 := hF.1 5 _ rfl
    have v6 := hF.1 6 _ rfl
    have v7 := hF.1 7 _ rfl
    have v8 := hF.1 8 _ rfl
    have v9 := hF.1 9 _ rfl
    refine bodyPost_ret (v := .agg #[.string (tx y.1.t), .slice ao (namesO l r []).1.length co, .int .i64 k3, .string nm3, .bool f3, .int .u64 u3, .slice ap3 np3 cp3, .slice ak3 nk3 ck3, .slice ab3 nb3 cb3, .slice aa3 na3 ca3]) (by simp [results, Tryz.results61, go_sem, v0, v1, v2, v3, v4, v5, v6, v7, v8, v9]) rfl ?_
    rw [H8.out.1]
    refine ⟨⟨_, _, _, _, _, _, _, _, _, rfl, ?_, ?_⟩, ((((((((((H9.out.1).over hlt _).over hlt _).over hlt _).over hlt _).over hlt _).over hlt _).over hlt _).over hlt _).over hlt _).over hlt _, (grown_new (grown_new (grown_new (grown_new (grown_new (grown_new (grown_new (grown_new (grown_new (grown_new (Gt (grown_of (b := b) HX.out.1) H9.out.2.1) Nr _) Nr _) Nr _) Nr _) Nr _) Nr _) Nr _) Nr _) Nr _) Nr _)⟩
    ·exact (RowAt.own H5.out.2.2.2.1).kp (H9.out.2.2.2.1.trans (((((((((((((((((((Kp.set _ _ _ _ (Or.inl (by omega)))).trans (Kp.set _ _ _ _ (Or.inl (by omega))))).trans (Kp.set _ _ _ _ (Or.inl (by omega))))).trans (Kp.set _ _ _ _ (Or.inl (by omega))))).trans (Kp.set _ _ _ _ (Or.inl (by omega))))).trans (Kp.set _ _ _ _ (Or.inl (by omega))))).trans (Kp.set _ _ _ _ (Or.inl (by omega))))).trans (Kp.set _ _ _ _ (Or.inl (by omega))))).trans (Kp.set _ _ _ _ (Or.inl (by omega))))).trans (Kp.set _ _ _ _ (Or.inl (by omega))))) (lo' := w.heap.size) (by omega)
    ·exact H8.out.2.2.2.2.2.kp (H9.out.2.2.2.2.trans (((((((((((((((((((Kp.set _ _ _ _ (Or.inl (by omega)))).trans (Kp.set _ _ _ _ (Or.inl (by omega))))).trans (Kp.set _ _ _ _ (Or.inl (by omega))))).trans (Kp.set _ _ _ _ (Or.inl (by omega))))).trans (Kp.set _ _ _ _ (Or.inl (by omega))))).trans (Kp.set _ _ _ _ (Or.inl (by omega))))).trans (Kp.set _ _ _ _ (Or.inl (by omega))))).trans (Kp.set _ _ _ _ (Or.inl (by omega))))).trans (Kp.set _ _ _ _ (Or.inl (by omega))))).trans (Kp.set _ _ _ _ (Or.inl (by omega))))) (by omega)
theorem lam_any (b me ma : Nat) (B : Bx) (n d : Nat) (hEx : ExprC b me ma B n d) (last : Int) (rest : List Tok) (hn : rest.length ≤ n) (hL : rest.length ≤ 4096) (w : World) (hC : Ctx w b me ma B) (hR : Rdr w b me ma last rest d) : Calls Tryz.prog 54 #[.pointer (some ⟨b, 0, none⟩)] w (OutSaid b me ma d (ExV w.heap.size) (lamO (exprO n d) last rest) w) := by
 have hlt : b < w.heap.size := Bl hR.c1
 have hx := (Below.refl w.heap.size w).alloc Nr (.cells #[.int .i64 0, .string ⟨#[]⟩, .bool false, .int .u64 0, .slice none 0 0, .slice none 0 0, .slice none 0 0, .slice none 0 0] 49)
 have hBp := BoxW.alloc w #[.int .i64 0, .string ⟨#[]⟩, .bool false, .int .u64 0, .slice none 0 0, .slice none 0 0, .slice none 0 0, .slice none 0 0] 49
 have HX := Hd (Ai hx (Ai (hR.later hx) (Ai hBp (hC.later (grown_of hx)))))
 have hsz0 : w.heap.size + 1 ≤ (w.alloc (.cells #[.int .i64 0, .string ⟨#[]⟩, .bool false, .int .u64 0, .slice none 0 0, .slice none 0 0, .slice none 0 0, .slice none 0 0] 49)).heap.size := by simp
 clear hx hR hBp
 go_enter Tryz.func54, Tryz.ntmps54
 go_upto_region 1 with fail
 generalize (w.alloc (.cells #[.int .i64 0, .string ⟨#[]⟩, .bool false, .int .u64 0, .slice none 0 0, .slice none 0 0, .slice none 0 0, .slice none 0 0] 49)) = W at *
 have HP := Hd (show lamO (exprO n d) last rest = (wantO sLam last rest).bind fun _ l r => if shapeL r = sName then (wantO sArrow (namesO l r []).2.1 (namesO l r []).2.2).bind fun _ l2 r2 => (exprO n d l2 r2).bind fun x l3 r3 => .ok (.mk 8 [] false 0 (namesO l r []).1 [x] [] []) l3 r3 else refuseO 3 l r from rfl)
 have H0 := Hd (Ai HX.out.2.1 (Ai (grown_of (b := b) (Below.refl W.heap.size W)) HX.out.2.2.2))
 have c0 := H0.out.2.2.env.lam.1.1
 have c1 := H0.out.2.2.env.lam.1.2
 have HC := Hd (want_any b me ma last rest d sLam (by decide) W H0.out.1)
 go_wp2_with fail
 refine HC.out.mono ?_
 rintro e w1 h
 cases ho : wantO sLam last rest with
 | bad er ln =>
  rw [ho] at h
  obtain ⟨hbr, hg⟩ := h
  have hp := HP.out
  rw [ho, bind_bad] at hp
  have HB := Hd (Ai hp (Gt (Gt (grown_of (b := b) HX.out.1) H0.out.2.1) hg))
  unfold Broken at hbr
  subst hbr
  clear hg ho hp HC c0 c1
  go_wp2_with fail
  refine ⟨rfl, ?_⟩
  rw [HB.out.1]
  exact ⟨rfl, HB.out.2⟩
 | ok y l r =>
  rw [ho] at h
  obtain ⟨rfl, hR, hg⟩ := h
  have hlr := congrArg List.length (wantO_less (by decide) ho)
  simp only [List.length_cons] at hlr
  have hp := HP.out
  rw [ho, bind_ok] at hp
  have HQ := Hd hp
  have hgW := Gt H0.out.2.1 hg
  have HG1 := Hd hg
  have hsz1 : W.heap.size ≤ w1.heap.size := hg.size
  have H1 := Hd (Ai hR (Ai hgW (HX.out.2.2.2.later hgW)))
  clear hp ho HP HC hg hgW hR c0 c1
  have HP := HQ
  clear HQ
  have c0 := H1.out.2.2.env.name.1.1
  have c1 := H1.out.2.2.env.name.1.2
  have HC := Hd (isAhead_any b me ma l r d sName w1 H1.out.1)
  go_wp2_with fail
  refine HC.out.mono ?_
  rintro e w2 ⟨rfl, hb⟩
  have hg := grown_of (b := b) hb
  have hgW := Gt H1.out.2.1 hg
  have HG2 := Hd hg
  have hsz2 : w1.heap.size ≤ w2.heap.size := hg.size
  have H2 := Hd (Ai (H1.out.1.later hb) (Ai hgW (HX.out.2.2.2.later hgW)))
  clear HC hg hgW hb c0 c1
  by_cases gs : shapeL r = sName
  ·rw [decide_eq_true gs]
   have hp := HP.out
   rw [if_pos gs] at hp
   have HP := Hd hp
   clear hp gs
   have HC := Hd (names_any b me ma l r d (by omega) w2 H2.out.2.2.env H2.out.1)
   go_wp2_with fail
   refine HC.out.mono ?_
   rintro e w3 ⟨v, rfl, hR, hg, hown⟩
   obtain ⟨aN, cN, rfl, -⟩ := own_shape hown
   have hlr1 := names_less r l []
   have HTN := Hd hown
   have hgW := Gt H2.out.2.1 hg
   have HG3 := Hd hg
   have hsz3 : w2.heap.size ≤ w3.heap.size := hg.size
   have H3 := Hd (Ai hR (Ai hgW (HX.out.2.2.2.later hgW)))
   clear HC hg hgW hR hown
   have c0 := H3.out.2.2.env.arrow.1.1
   have c1 := H3.out.2.2.env.arrow.1.2
   have HC := Hd (want_any b me ma (namesO l r []).2.1 (namesO l r []).2.2 d sArrow (by decide) w3 H3.out.1)
   go_wp2_with fail
   refine HC.out.mono ?_
   rintro e w4 h
   cases ho : wantO sArrow (namesO l r []).2.1 (namesO l r []).2.2 with
   | bad er ln =>
    rw [ho] at h
    obtain ⟨hbr, hg⟩ := h
    have hp := HP.out
    rw [ho, bind_bad] at hp
    have HB := Hd (Ai hp (Gt (Gt (grown_of (b := b) HX.out.1) H3.out.2.1) hg))
    unfold Broken at hbr
    subst hbr
    clear hg ho hp HC c0 c1
    go_wp2_with fail
    refine ⟨rfl, ?_⟩
    rw [HB.out.1]
    exact ⟨rfl, HB.out.2⟩
   | ok y2 l2 r2 =>
    rw [ho] at h
    obtain ⟨rfl, hR, hg⟩ := h
    have hlr2 := congrArg List.length (wantO_less (by decide) ho)
    simp only [List.length_cons] at hlr2
    have hp := HP.out
    rw [ho, bind_ok] at hp
    have HQ := Hd hp
    have hgW := Gt H3.out.2.1 hg
    have HG4 := Hd hg
    have hsz4 : w3.heap.size ≤ w4.heap.size := hg.size
    have H4 := Hd (Ai hR (Ai hgW (HX.out.2.2.2.later hgW)))
    clear hp ho HP HC hg hgW hR c0 c1
    have HP := HQ
    clear HQ
    have HC := Hd (hEx l2 r2 w4 (by omega) (by omega) H4.out.2.2 H4.out.1)
    go_wp2_with fail
    refine HC.out.mono ?_
    rintro e w5 h
    cases ho : exprO n d l2 r2 with
    | bad er ln =>
     rw [ho] at h
     obtain ⟨hbr, hg⟩ := h
     have hp := HP.out
     rw [ho, bind_bad] at hp
     have HB := Hd (Ai hp (Gt (Gt (grown_of (b := b) HX.out.1) H4.out.2.1) hg))
     unfold Broken at hbr
     subst hbr
     clear hg ho hp HC 
     go_wp2_with fail
     refine ⟨rfl, ?_⟩
     rw [HB.out.1]
     exact ⟨rfl, HB.out.2⟩
    | ok x l3 r3 =>
     rw [ho] at h
     have hlr3 : r3.length ≤ r2.length := by have h := expr_shrinks n d l2 r2; rw [ho] at h; exact h
     obtain ⟨⟨k3, nm3, f3, u3, vp, vk, vb, va, rfl, hat⟩, hR, hg⟩ := h
     obtain ⟨⟨ap3, np3, cp3, rfl⟩, ⟨ak3, nk3, ck3, rfl⟩, ⟨ab3, nb3, cb3, rfl⟩, ⟨aa3, na3, ca3, rfl⟩⟩ := hat.slices
     have HT3 := Hd hat
     clear hat
     have hp := HP.out
     rw [ho, bind_ok] at hp
     have HQ := Hd hp
     have hgW := Gt H4.out.2.1 hg
     have HG5 := Hd hg
     have hsz5 : w4.heap.size ≤ w5.heap.size := hg.size
     have H5 := Hd (Ai hR (Ai hgW (HX.out.2.2.2.later hgW)))
     clear hp ho HP HC hg hgW hR 
     have HP := HQ
     clear HQ
     have hy := (Below.refl w5.heap.size w5).alloc Nr (.cells #[.int .i64 k3, .string nm3, .bool f3, .int .u64 u3, .slice ap3 np3 cp3, .slice ak3 nk3 ck3, .slice ab3 nb3 cb3, .slice aa3 na3 ca3] 49)
     have hszA : w5.heap.size ≤ (w5.alloc (.cells #[.int .i64 k3, .string nm3, .bool f3, .int .u64 u3, .slice ap3 np3 cp3, .slice ak3 nk3 ck3, .slice ab3 nb3 cb3, .slice aa3 na3 ca3] 49)).heap.size := hy.size
     have hBp : BoxW (w5.alloc (.cells #[.int .i64 k3, .string nm3, .bool f3, .int .u64 u3, .slice ap3 np3 cp3, .slice ak3 nk3 ck3, .slice ab3 nb3 cb3, .slice aa3 na3 ca3] 49)) w.heap.size [.int .i64 0, .string ⟨#[]⟩, .bool false, .int .u64 0, .slice none 0 0, .slice none 0 0, .slice none 0 0, .slice none 0 0] := boxw_grown HX.out.2.2.1 (Gt H5.out.2.1 (grown_of (b := b) hy)) (by omega)
     have d0 : (w5.alloc (.cells #[.int .i64 k3, .string nm3, .bool f3, .int .u64 u3, .slice ap3 np3 cp3, .slice ak3 nk3 ck3, .slice ab3 nb3 cb3, .slice aa3 na3 ca3] 49)).cell? ⟨w.heap.size, 0, none⟩ = some _ := hBp.1 0 _ rfl
     have d1 : (w5.alloc (.cells #[.int .i64 k3, .string nm3, .bool f3, .int .u64 u3, .slice ap3 np3 cp3, .slice ak3 nk3 ck3, .slice ab3 nb3 cb3, .slice aa3 na3 ca3] 49)).cell? ⟨w.heap.size, 1, none⟩ = some _ := hBp.1 1 _ rfl
     have d2 : (w5.alloc (.cells #[.int .i64 k3, .string nm3, .bool f3, .int .u64 u3, .slice ap3 np3 cp3, .slice ak3 nk3 ck3, .slice ab3 nb3 cb3, .slice aa3 na3 ca3] 49)).cell? ⟨w.heap.size, 2, none⟩ = some _ := hBp.1 2 _ rfl
     have d3 : (w5.alloc (.cells #[.int .i64 k3, .string nm3, .bool f3, .int .u64 u3, .slice ap3 np3 cp3, .slice ak3 nk3 ck3, .slice ab3 nb3 cb3, .slice aa3 na3 ca3] 49)).cell? ⟨w.heap.size, 3, none⟩ = some _ := hBp.1 3 _ rfl
     have d4 : (w5.alloc (.cells #[.int .i64 k3, .string nm3, .bool f3, .int .u64 u3, .slice ap3 np3 cp3, .slice ak3 nk3 ck3, .slice ab3 nb3 cb3, .slice aa3 na3 ca3] 49)).cell? ⟨w.heap.size, 4, none⟩ = some _ := hBp.1 4 _ rfl
     have d5 : (w5.alloc (.cells #[.int .i64 k3, .string nm3, .bool f3, .int .u64 u3, .slice ap3 np3 cp3, .slice ak3 nk3 ck3, .slice ab3 nb3 cb3, .slice aa3 na3 ca3] 49)).cell? ⟨w.heap.size, 5, none⟩ = some _ := hBp.1 5 _ rfl
     have d6 : (w5.alloc (.cells #[.int .i64 k3, .string nm3, .bool f3, .int .u64 u3, .slice ap3 np3 cp3, .slice ak3 nk3 ck3, .slice ab3 nb3 cb3, .slice aa3 na3 ca3] 49)).cell? ⟨w.heap.size, 6, none⟩ = some _ := hBp.1 6 _ rfl
     have d7 : (w5.alloc (.cells #[.int .i64 k3, .string nm3, .bool f3, .int .u64 u3, .slice ap3 np3 cp3, .slice ak3 nk3 ck3, .slice ab3 nb3 cb3, .slice aa3 na3 ca3] 49)).cell? ⟨w.heap.size, 7, none⟩ = some _ := hBp.1 7 _ rfl
     have z0 : (w5.alloc (.cells #[.int .i64 k3, .string nm3, .bool f3, .int .u64 u3, .slice ap3 np3 cp3, .slice ak3 nk3 ck3, .slice ab3 nb3 cb3, .slice aa3 na3 ca3] 49)).frozen? ⟨w.heap.size, 0, none⟩ = false := hBp.2 0
     have z1 : (w5.alloc (.cells #[.int .i64 k3, .string nm3, .bool f3, .int .u64 u3, .slice ap3 np3 cp3, .slice ak3 nk3 ck3, .slice ab3 nb3 cb3, .slice aa3 na3 ca3] 49)).frozen? ⟨w.heap.size, 1, none⟩ = false := hBp.2 1
     have z2 : (w5.alloc (.cells #[.int .i64 k3, .string nm3, .bool f3, .int .u64 u3, .slice ap3 np3 cp3, .slice ak3 nk3 ck3, .slice ab3 nb3 cb3, .slice aa3 na3 ca3] 49)).frozen? ⟨w.heap.size, 2, none⟩ = false := hBp.2 2
     have z3 : (w5.alloc (.cells #[.int .i64 k3, .string nm3, .bool f3, .int .u64 u3, .slice ap3 np3 cp3, .slice ak3 nk3 ck3, .slice ab3 nb3 cb3, .slice aa3 na3 ca3] 49)).frozen? ⟨w.heap.size, 3, none⟩ = false := hBp.2 3
     have z4 : (w5.alloc (.cells #[.int .i64 k3, .string nm3, .bool f3, .int .u64 u3, .slice ap3 np3 cp3, .slice ak3 nk3 ck3, .slice ab3 nb3 cb3, .slice aa3 na3 ca3] 49)).frozen? ⟨w.heap.size, 4, none⟩ = false := hBp.2 4
     have z5 : (w5.alloc (.cells #[.int .i64 k3, .string nm3, .bool f3, .int .u64 u3, .slice ap3 np3 cp3, .slice ak3 nk3 ck3, .slice ab3 nb3 cb3, .slice aa3 na3 ca3] 49)).frozen? ⟨w.heap.size, 5, none⟩ = false := hBp.2 5
     have z6 : (w5.alloc (.cells #[.int .i64 k3, .string nm3, .bool f3, .int .u64 u3, .slice ap3 np3 cp3, .slice ak3 nk3 ck3, .slice ab3 nb3 cb3, .slice aa3 na3 ca3] 49)).frozen? ⟨w.heap.size, 6, none⟩ = false := hBp.2 6
     have z7 : (w5.alloc (.cells #[.int .i64 k3, .string nm3, .bool f3, .int .u64 u3, .slice ap3 np3 cp3, .slice ak3 nk3 ck3, .slice ab3 nb3 cb3, .slice aa3 na3 ca3] 49)).frozen? ⟨w.heap.size, 7, none⟩ = false := hBp.2 7
     have HBp := Hd hBp
     clear hBp
     go_wp2_with fail
     have hF := ((((((((HBp.out).set 0 (show 0 < 8 by decide) (.int .i64 8)).set 1 (show 1 < 8 by decide) (.string ⟨#[]⟩)).set 2 (show 2 < 8 by decide) (.bool false)).set 3 (show 3 < 8 by decide) (.int .u64 0)).set 4 (show 4 < 8 by decide) (.slice aN (namesO l r []).1.length cN)).set 5 (show 5 < 8 by decide) (.slice (some ⟨w5.heap.size, 0, none⟩) 1 1)).set 6 (show 6 < 8 by decide) (.slice none 0 0)).set 7 (show 7 < 8 by decide) (.slice none 0 0)
     have v0 := hF.1 0 _ rfl
     have v1 := hF.1 1 _ rfl
     have v2 := hF.1 2 _ rfl
     have v3 := hF.1 3 _ rfl
     have v4 := hF.1 4 _ rfl
     have v5 := hF.1 5 _ rfl
     have v6 := hF.1 6 _ rfl
     have v7 := hF.1 7 _ rfl
     refine bodyPost_ret (v := .agg #[.int .i64 8, .string ⟨#[]⟩, .bool false, .int .u64 0, .slice aN (namesO l r []).1.length cN, .slice (some ⟨w5.heap.size, 0, none⟩) 1 1, .slice none 0 0, .slice none 0 0]) (by simp [results, Tryz.results54, go_sem, v0, v1, v2, v3, v4, v5, v6, v7]) rfl ?_
     rw [HP.out]
     refine ⟨⟨_, _, _, _, _, _, _, _, rfl, ?_⟩, (((((((((H5.out.1.later hy)).over hlt _).over hlt _).over hlt _).over hlt _).over hlt _).over hlt _).over hlt _).over hlt _, (grown_new (grown_new (grown_new (grown_new (grown_new (grown_new (grown_new (grown_new (Gt (grown_of (b := b) HX.out.1) (Gt H5.out.2.1 (grown_of (b := b) hy))) Nr _) Nr _) Nr _) Nr _) Nr _) Nr _) Nr _) Nr _)⟩
     exact .mk 8 [] false 0 (namesO l r []).1 [x] [] [] (.slice aN (namesO l r []).1.length cN) _ _ _ [.int .i64 k3, .string nm3, .bool f3, .int .u64 u3, .slice ap3 np3 cp3, .slice ak3 nk3 ck3, .slice ab3 nb3 cb3, .slice aa3 na3 ca3] [] [] ((RowAt.own HTN.out).kp ((((((Kp.grown HG4.out (by omega) (by omega)).trans (Kp.grown HG5.out (by omega) (by omega)))).trans (Kp.below hy (by omega)))).trans (((((((((((((((Kp.set _ _ _ _ (Or.inl (by omega)))).trans (Kp.set _ _ _ _ (Or.inl (by omega))))).trans (Kp.set _ _ _ _ (Or.inl (by omega))))).trans (Kp.set _ _ _ _ (Or.inl (by omega))))).trans (Kp.set _ _ _ _ (Or.inl (by omega))))).trans (Kp.set _ _ _ _ (Or.inl (by omega))))).trans (Kp.set _ _ _ _ (Or.inl (by omega))))).trans (Kp.set _ _ _ _ (Or.inl (by omega))))) (by omega)) ((RowAt.own (own_built (g := w5.heap.size) (base := w5.heap.size) (n := 1) (cs := #[.int .i64 k3, .string nm3, .bool f3, .int .u64 u3, .slice ap3 np3 cp3, .slice ak3 nk3 ck3, .slice ab3 nb3 cb3, .slice aa3 na3 ca3]) (heap_alloc_new _ _) Nr rfl (by decide))).kp (((((((((((((((Kp.set _ _ _ _ (Or.inl (by omega)))).trans (Kp.set _ _ _ _ (Or.inl (by omega))))).trans (Kp.set _ _ _ _ (Or.inl (by omega))))).trans (Kp.set _ _ _ _ (Or.inl (by omega))))).trans (Kp.set _ _ _ _ (Or.inl (by omega))))).trans (Kp.set _ _ _ _ (Or.inl (by omega))))).trans (Kp.set _ _ _ _ (Or.inl (by omega))))).trans (Kp.set _ _ _ _ (Or.inl (by omega)))) (by omega)) (RowAt.nil _ _ _ _) (RowAt.nil _ _ _ _) (ExsAt.cons x [] [.int .i64 k3, .string nm3, .bool f3, .int .u64 u3, .slice ap3 np3 cp3, .slice ak3 nk3 ck3, .slice ab3 nb3 cb3, .slice aa3 na3 ca3] [] ((HT3.out).kp (((Kp.below hy (by omega))).trans (((((((((((((((Kp.set _ _ _ _ (Or.inl (by omega)))).trans (Kp.set _ _ _ _ (Or.inl (by omega))))).trans (Kp.set _ _ _ _ (Or.inl (by omega))))).trans (Kp.set _ _ _ _ (Or.inl (by omega))))).trans (Kp.set _ _ _ _ (Or.inl (by omega))))).trans (Kp.set _ _ _ _ (Or.inl (by omega))))).trans (Kp.set _ _ _ _ (Or.inl (by omega))))).trans (Kp.set _ _ _ _ (Or.inl (by omega))))) (by omega)) .nil) .nil .nil
  ·rw [decide_eq_false gs]
   have hp := HP.out
   rw [if_neg gs, refuseO_eq] at hp
   have HP := Hd hp
   have HC := Hd (refuse_any b me ma l r d 3 w2 H2.out.1)
   clear hp gs
   go_wp2_with fail
   refine HC.out.mono ?_
   rintro e w9 ⟨hbr, hb⟩
   have HB := Hd (Gt (Gt (grown_of (b := b) HX.out.1) H2.out.2.1) (grown_of (b := b) hb))
   unfold Broken at hbr
   subst hbr
   clear hb HC
   go_wp2_with fail
   refine ⟨rfl, ?_⟩
   rw [HP.out]
   exact ⟨rfl, HB.out⟩
end Go.Proofs.YtbnmmbjajheedaaGreatDoor
