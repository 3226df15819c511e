import Derived.Deep.RegionHeldLaw
import Derived.Test.YtbnmmbjajheedaaGreatDoorMg6
import Derived.Test.YtbnmmbjajheedaaGreatDoorMg8
namespace Go.Proofs.YtbnmmbjajheedaaGreatDoor
set_option maxHeartbeats 64000000
set_option maxRecDepth 100000
open Go.RowKit Go.Lib
theorem let_any (b me ma : Nat) (B : Bx) (n d : Nat) (hEx : ExprC b me ma B n d) (last : Int) (rest : List Tok) (hn : rest.length ≤ n) (hL : rest.length ≤ 4096) (w : World) (hC : Ctx w b me ma B) (hR : Rdr w b me ma last rest d) : Calls Tryz.prog 52 #[.pointer (some ⟨b, 0, none⟩)] w (OutSaid b me ma d (ExV w.heap.size) (letO (exprO n d) last rest) w) := by
 have hlt : b < w.heap.size := Bl hR.c1
 have hx := (Below.refl w.heap.size w).alloc Nr (.cells #[.int .i64 0, .string ⟨#[]⟩, .bool false, .int .u64 0, .slice none 0 0, .slice none 0 0, .slice none 0 0, .slice none 0 0] 49)
 have hBp := BoxW.alloc w #[.int .i64 0, .string ⟨#[]⟩, .bool false, .int .u64 0, .slice none 0 0, .slice none 0 0, .slice none 0 0, .slice none 0 0] 49
 have HX := Hd (Ai hx (Ai (hR.later hx) (Ai hBp (hC.later (grown_of hx)))))
 have hsz0 : w.heap.size + 1 ≤ (w.alloc (.cells #[.int .i64 0, .string ⟨#[]⟩, .bool false, .int .u64 0, .slice none 0 0, .slice none 0 0, .slice none 0 0, .slice none 0 0] 49)).heap.size := by simp
 clear hx hR hBp
 go_enter Tryz.func52, Tryz.ntmps52
 go_upto_region 1 with fail
 generalize (w.alloc (.cells #[.int .i64 0, .string ⟨#[]⟩, .bool false, .int .u64 0, .slice none 0 0, .slice none 0 0, .slice none 0 0, .slice none 0 0] 49)) = W at *
 have HP := Hd (show letO (exprO n d) last rest = (wantO sLet last rest).bind fun _ l r => (someO (bindO (exprO n d)) l r).bind fun bs l2 r2 => (wantO sIn l2 r2).bind fun _ l3 r3 => (exprO n d l3 r3).bind fun x l4 r4 => .ok (.mk 6 [] false 0 [] [x] bs []) l4 r4 from rfl)
 have H0 := Hd (Ai HX.out.2.1 (Ai (grown_of (b := b) (Below.refl W.heap.size W)) HX.out.2.2.2))
 have c0 := H0.out.2.2.env.letw.1.1
 have c1 := H0.out.2.2.env.letw.1.2
 have HC := Hd (want_any b me ma last rest d sLet (by decide) W H0.out.1)
 go_wp2_with fail
 refine HC.out.mono ?_
 rintro e w1 h
 cases ho : wantO sLet last rest with
 | bad er ln =>
  rw [ho] at h
  obtain ⟨hbr, hg⟩ := h
  have hp := HP.out
  rw [ho, bind_bad] at hp
  have HB := Hd (Ai hp (Gt (Gt (grown_of (b := b) HX.out.1) H0.out.2.1) hg))
  unfold Broken at hbr
  subst hbr
  clear hg ho hp HC c0 c1
  go_wp2_with fail
  refine ⟨rfl, ?_⟩
  rw [HB.out.1]
  exact ⟨rfl, HB.out.2⟩
 | ok y l r =>
  rw [ho] at h
  obtain ⟨rfl, hR, hg⟩ := h
  have hlr := congrArg List.length (wantO_less (by decide) ho)
  simp only [List.length_cons] at hlr
  have hp := HP.out
  rw [ho, bind_ok] at hp
  have HQ := Hd hp
  have hgW := Gt H0.out.2.1 hg
  have HG1 := Hd hg
  have hsz1 : W.heap.size ≤ w1.heap.size := hg.size
  have H1 := Hd (Ai hR (Ai hgW (HX.out.2.2.2.later hgW)))
  clear hp ho HP HC hg hgW hR c0 c1
  have HP := HQ
  clear HQ
  have HC := Hd (binds_any b me ma B n d hEx l r (by omega) (by omega) w1 H1.out.2.2 H1.out.1)
  go_wp2_with fail
  refine HC.out.mono ?_
  rintro e w2 h
  cases ho : someO (bindO (exprO n d)) l r with
  | bad er ln =>
   rw [ho] at h
   obtain ⟨hbr, hg⟩ := h
   have hp := HP.out
   rw [ho, bind_bad] at hp
   have HB := Hd (Ai hp (Gt (Gt (grown_of (b := b) HX.out.1) H1.out.2.1) hg))
   unfold Broken at hbr
   subst hbr
   clear hg ho hp HC 
   go_wp2_with fail
   refine ⟨rfl, ?_⟩
   rw [HB.out.1]
   exact ⟨rfl, HB.out.2⟩
  | ok bs l2 r2 =>
   rw [ho] at h
   have hlr2 : r2.length ≤ r.length := by have h := some_shrinks (bind_shrinks (expr_shrinks n d)) l r; rw [ho] at h; exact h
   obtain ⟨⟨v, csL, rfl, hown, hat⟩, hR, hg⟩ := h
   obtain ⟨aL, cL, rfl, -⟩ := own_shape hown
   have HTL := Hd (Ai hown hat)
   clear hown hat
   have hp := HP.out
   rw [ho, bind_ok] at hp
   have HQ := Hd hp
   have hgW := Gt H1.out.2.1 hg
   have HG2 := Hd hg
   have hsz2 : w1.heap.size ≤ w2.heap.size := hg.size
   have H2 := Hd (Ai hR (Ai hgW (HX.out.2.2.2.later hgW)))
   clear hp ho HP HC hg hgW hR 
   have HP := HQ
   clear HQ
   have c0 := H2.out.2.2.env.inw.1.1
   have c1 := H2.out.2.2.env.inw.1.2
   have HC := Hd (want_any b me ma l2 r2 d sIn (by decide) w2 H2.out.1)
   go_wp2_with fail
   refine HC.out.mono ?_
   rintro e w3 h
   cases ho : wantO sIn l2 r2 with
   | bad er ln =>
    rw [ho] at h
    obtain ⟨hbr, hg⟩ := h
    have hp := HP.out
    rw [ho, bind_bad] at hp
    have HB := Hd (Ai hp (Gt (Gt (grown_of (b := b) HX.out.1) H2.out.2.1) hg))
    unfold Broken at hbr
    subst hbr
    clear hg ho hp HC c0 c1
    go_wp2_with fail
    refine ⟨rfl, ?_⟩
    rw [HB.out.1]
    exact ⟨rfl, HB.out.2⟩
   | ok y2 l3 r3 =>
    rw [ho] at h
    obtain ⟨rfl, hR, hg⟩ := h
    have hlr3 := congrArg List.length (wantO_less (by decide) ho)
    simp only [List.length_cons] at hlr3
    have hp := HP.out
    rw [ho, bind_ok] at hp
    have HQ := Hd hp
    have hgW := Gt H2.out.2.1 hg
    have HG3 := Hd hg
    have hsz3 : w2.heap.size ≤ w3.heap.size := hg.size
    have H3 := Hd (Ai hR (Ai hgW (HX.out.2.2.2.later hgW)))
    clear hp ho HP HC hg hgW hR c0 c1
    have HP := HQ
    clear HQ
    have HC := Hd (hEx l3 r3 w3 (by omega) (by omega) H3.out.2.2 H3.out.1)
    go_wp2_with fail
    refine HC.out.mono ?_
    rintro e w4 h
    cases ho : exprO n d l3 r3 with
    | bad er ln =>
     rw [ho] at h
     obtain ⟨hbr, hg⟩ := h
     have hp := HP.out
     rw [ho, bind_bad] at hp
     have HB := Hd (Ai hp (Gt (Gt (grown_of (b := b) HX.out.1) H3.out.2.1) hg))
     unfold Broken at hbr
     subst hbr
     clear hg ho hp HC 
     go_wp2_with fail
     refine ⟨rfl, ?_⟩
     rw [HB.out.1]
     exact ⟨rfl, HB.out.2⟩
    | ok x l4 r4 =>
     rw [ho] at h
     have hlr4 : r4.length ≤ r3.length := by have h := expr_shrinks n d l3 r3; rw [ho] at h; exact h
     obtain ⟨⟨k3, nm3, f3, u3, vp, vk, vb, va, rfl, hat⟩, hR, hg⟩ := h
     obtain ⟨⟨ap3, np3, cp3, rfl⟩, ⟨ak3, nk3, ck3, rfl⟩, ⟨ab3, nb3, cb3, rfl⟩, ⟨aa3, na3, ca3, rfl⟩⟩ := hat.slices
     have HT3 := Hd hat
     clear hat
     have hp := HP.out
     rw [ho, bind_ok] at hp
     have HQ := Hd hp
     have hgW := Gt H3.out.2.1 hg
     have HG4 := Hd hg
     have hsz4 : w3.heap.size ≤ w4.heap.size := hg.size
     have H4 := Hd (Ai hR (Ai hgW (HX.out.2.2.2.later hgW)))
     clear hp ho HP HC hg hgW hR 
     have HP := HQ
     clear HQ
     have hy := (Below.refl w4.heap.size w4).alloc Nr (.cells #[.int .i64 k3, .string nm3, .bool f3, .int .u64 u3, .slice ap3 np3 cp3, .slice ak3 nk3 ck3, .slice ab3 nb3 cb3, .slice aa3 na3 ca3] 49)
     have hszA : w4.heap.size ≤ (w4.alloc (.cells #[.int .i64 k3, .string nm3, .bool f3, .int .u64 u3, .slice ap3 np3 cp3, .slice ak3 nk3 ck3, .slice ab3 nb3 cb3, .slice aa3 na3 ca3] 49)).heap.size := hy.size
     have hBp : BoxW (w4.alloc (.cells #[.int .i64 k3, .string nm3, .bool f3, .int .u64 u3, .slice ap3 np3 cp3, .slice ak3 nk3 ck3, .slice ab3 nb3 cb3, .slice aa3 na3 ca3] 49)) w.heap.size [.int .i64 0, .string ⟨#[]⟩, .bool false, .int .u64 0, .slice none 0 0, .slice none 0 0, .slice none 0 0, .slice none 0 0] := boxw_grown HX.out.2.2.1 (Gt H4.out.2.1 (grown_of (b := b) hy)) (by omega)
     have d0 : (w4.alloc (.cells #[.int .i64 k3, .string nm3, .bool f3, .int .u64 u3, .slice ap3 np3 cp3, .slice ak3 nk3 ck3, .slice ab3 nb3 cb3, .slice aa3 na3 ca3] 49)).cell? ⟨w.heap.size, 0, none⟩ = some _ := hBp.1 0 _ rfl
     have d1 : (w4.alloc (.cells #[.int .i64 k3, .string nm3, .bool f3, .int .u64 u3, .slice ap3 np3 cp3, .slice ak3 nk3 ck3, .slice ab3 nb3 cb3, .slice aa3 na3 ca3] 49)).cell? ⟨w.heap.size, 1, none⟩ = some _ := hBp.1 1 _ rfl
     have d2 : (w4.alloc (.cells #[.int .i64 k3, .string nm3, .bool f3, .int .u64 u3, .slice ap3 np3 cp3, .slice ak3 nk3 ck3, .slice ab3 nb3 cb3, .slice aa3 na3 ca3] 49)).cell? ⟨w.heap.size, 2, none⟩ = some _ := hBp.1 2 _ rfl
     have d3 : (w4.alloc (.cells #[.int .i64 k3, .string nm3, .bool f3, .int .u64 u3, .slice ap3 np3 cp3, .slice ak3 nk3 ck3, .slice ab3 nb3 cb3, .slice aa3 na3 ca3] 49)).cell? ⟨w.heap.size, 3, none⟩ = some _ := hBp.1 3 _ rfl
     have d4 : (w4.alloc (.cells #[.int .i64 k3, .string nm3, .bool f3, .int .u64 u3, .slice ap3 np3 cp3, .slice ak3 nk3 ck3, .slice ab3 nb3 cb3, .slice aa3 na3 ca3] 49)).cell? ⟨w.heap.size, 4, none⟩ = some _ := hBp.1 4 _ rfl
     have d5 : (w4.alloc (.cells #[.int .i64 k3, .string nm3, .bool f3, .int .u64 u3, .slice ap3 np3 cp3, .slice ak3 nk3 ck3, .slice ab3 nb3 cb3, .slice aa3 na3 ca3] 49)).cell? ⟨w.heap.size, 5, none⟩ = some _ := hBp.1 5 _ rfl
     have d6 : (w4.alloc (.cells #[.int .i64 k3, .string nm3, .bool f3, .int .u64 u3, .slice ap3 np3 cp3, .slice ak3 nk3 ck3, .slice ab3 nb3 cb3, .slice aa3 na3 ca3] 49)).cell? ⟨w.heap.size, 6, none⟩ = some _ := hBp.1 6 _ rfl
     have d7 : (w4.alloc (.cells #[.int .i64 k3, .string nm3, .bool f3, .int .u64 u3, .slice ap3 np3 cp3, .slice ak3 nk3 ck3, .slice ab3 nb3 cb3, .slice aa3 na3 ca3] 49)).cell? ⟨w.heap.size, 7, none⟩ = some _ := hBp.1 7 _ rfl
     have z0 : (w4.alloc (.cells #[.int .i64 k3, .string nm3, .bool f3, .int .u64 u3, .slice ap3 np3 cp3, .slice ak3 nk3 ck3, .slice ab3 nb3 cb3, .slice aa3 na3 ca3] 49)).frozen? ⟨w.heap.size, 0, none⟩ = false := hBp.2 0
     have z1 : (w4.alloc (.cells #[.int .i64 k3, .string nm3, .bool f3, .int .u64 u3, .slice ap3 np3 cp3, .slice ak3 nk3 ck3, .slice ab3 nb3 cb3, .slice aa3 na3 ca3] 49)).frozen? ⟨w.heap.size, 1, none⟩ = false := hBp.2 1
     have z2 : (w4.alloc (.cells #[.int .i64 k3, .string nm3, .bool f3, .int .u64 u3, .slice ap3 np3 cp3, .slice ak3 nk3 ck3, .slice ab3 nb3 cb3, .slice aa3 na3 ca3] 49)).frozen? ⟨w.heap.size, 2, none⟩ = false := hBp.2 2
     have z3 : (w4.alloc (.cells #[.int .i64 k3, .string nm3, .bool f3, .int .u64 u3, .slice ap3 np3 cp3, .slice ak3 nk3 ck3, .slice ab3 nb3 cb3, .slice aa3 na3 ca3] 49)).frozen? ⟨w.heap.size, 3, none⟩ = false := hBp.2 3
     have z4 : (w4.alloc (.cells #[.int .i64 k3, .string nm3, .bool f3, .int .u64 u3, .slice ap3 np3 cp3, .slice ak3 nk3 ck3, .slice ab3 nb3 cb3, .slice aa3 na3 ca3] 49)).frozen? ⟨w.heap.size, 4, none⟩ = false := hBp.2 4
     have z5 : (w4.alloc (.cells #[.int .i64 k3, .string nm3, .bool f3, .int .u64 u3, .slice ap3 np3 cp3, .slice ak3 nk3 ck3, .slice ab3 nb3 cb3, .slice aa3 na3 ca3] 49)).frozen? ⟨w.heap.size, 5, none⟩ = false := hBp.2 5
     have z6 : (w4.alloc (.cells #[.int .i64 k3, .string nm3, .bool f3, .int .u64 u3, .slice ap3 np3 cp3, .slice ak3 nk3 ck3, .slice ab3 nb3 cb3, .slice aa3 na3 ca3] 49)).frozen? ⟨w.heap.size, 6, none⟩ = false := hBp.2 6
     have z7 : (w4.alloc (.cells #[.int .i64 k3, .string nm3, .bool f3, .int .u64 u3, .slice ap3 np3 cp3, .slice ak3 nk3 ck3, .slice ab3 nb3 cb3, .slice aa3 na3 ca3] 49)).frozen? ⟨w.heap.size, 7, none⟩ = false := hBp.2 7
     have HBp := Hd hBp
     clear hBp
     go_wp2_with fail
     have hF := ((HBp.out)).b8v (.int .i64 6) (.string ⟨#[]⟩) (.bool false) (.int .u64 0) (.slice none 0 0) (.slice (some ⟨w4.heap.size, 0, none⟩) 1 1) (.slice aL bs.length cL) (.slice none 0 0)
     have v0 := hF.1 0 _ rfl
     have v1 := hF.1 1 _ rfl
     have v2 := hF.1 2 _ rfl
     have v3 := hF.1 3 _ rfl
     have v4 := hF.1 4 _ rfl
     have v5 := hF.1 5 _ rfl
     have v6 := hF.1 6 _ rfl
     have v7 := hF.1 7 _ rfl
     refine bodyPost_ret (v := .agg #[.int .i64 6, .string ⟨#[]⟩, .bool false, .int .u64 0, .slice none 0 0, .slice (some ⟨w4.heap.size, 0, none⟩) 1 1, .slice aL bs.length cL, .slice none 0 0]) (by simp [results, Tryz.results52, go_sem, v0, v1, v2, v3, v4, v5, v6, v7]) rfl ?_
     rw [HP.out]
     refine ⟨⟨_, _, _, _, _, _, _, _, rfl, ?_⟩, (((((((((H4.out.1.later hy)).over hlt _).over hlt _).over hlt _).over hlt _).over hlt _).over hlt _).over hlt _).over hlt _, (grown_new (grown_new (grown_new (grown_new (grown_new (grown_new (grown_new (grown_new (Gt (grown_of (b := b) HX.out.1) (Gt H4.out.2.1 (grown_of (b := b) hy))) Nr _) Nr _) Nr _) Nr _) Nr _) Nr _) Nr _) Nr _)⟩
     exact .mk 6 [] false 0 [] [x] bs [] _ _ (.slice aL bs.length cL) _ [.int .i64 k3, .string nm3, .bool f3, .int .u64 u3, .slice ap3 np3 cp3, .slice ak3 nk3 ck3, .slice ab3 nb3 cb3, .slice aa3 na3 ca3] csL [] (RowAt.nil _ _ _ _) ((RowAt.own (own_built (g := w4.heap.size) (base := w4.heap.size) (n := 1) (cs := #[.int .i64 k3, .string nm3, .bool f3, .int .u64 u3, .slice ap3 np3 cp3, .slice ak3 nk3 ck3, .slice ab3 nb3 cb3, .slice aa3 na3 ca3]) (heap_alloc_new _ _) Nr rfl (by decide))).kp ((Kp.s8 (Or.inl (by omega)))) (by omega)) ((RowAt.own HTL.out.1).kp ((((((Kp.grown HG3.out (by omega) (by omega)).trans (Kp.grown HG4.out (by omega) (by omega)))).trans (Kp.below hy (by omega)))).trans ((Kp.s8 (Or.inl (by omega))))) (by omega)) (RowAt.nil _ _ _ _) (ExsAt.cons x [] [.int .i64 k3, .string nm3, .bool f3, .int .u64 u3, .slice ap3 np3 cp3, .slice ak3 nk3 ck3, .slice ab3 nb3 cb3, .slice aa3 na3 ca3] [] ((HT3.out).kp (((Kp.below hy (by omega))).trans ((Kp.s8 (Or.inl (by omega))))) (by omega)) .nil) ((HTL.out.2).kp ((((((Kp.grown HG3.out (by omega) (by omega)).trans (Kp.grown HG4.out (by omega) (by omega)))).trans (Kp.below hy (by omega)))).trans ((Kp.s8 (Or.inl (by omega))))) (by omega)) .nil
theorem case_any (b me ma : Nat) (B : Bx) (n d : Nat) (hEx : ExprC b me ma B n d) (last : Int) (rest : List Tok) (hn : rest.length ≤ n) (hL : rest.length ≤ 4096) (w : World) (hC : Ctx w b me ma B) (hR : Rdr w b me ma last rest d) : Calls Tryz.prog 53 #[.pointer (some ⟨b, 0, none⟩)] w (OutSaid b me ma d (ExV w.heap.size) (caseO (exprO n d) last rest) w) := by
 have hlt : b < w.heap.size := Bl hR.c1
 have hx := (Below.refl w.heap.size w).alloc Nr (.cells #[.int .i64 0, .string ⟨#[]⟩, .bool false, .int .u64 0, .slice none 0 0, .slice none 0 0, .slice none 0 0, .slice none 0 0] 49)
 have hBp := BoxW.alloc w #[.int .i64 0, .string ⟨#[]⟩, .bool false, .int .u64 0, .slice none 0 0, .slice none 0 0, .slice none 0 0, .slice none 0 0] 49
 have HX := Hd (Ai hx (Ai (hR.later hx) (Ai hBp (hC.later (grown_of hx)))))
 have hsz0 : w.heap.size + 1 ≤ (w.alloc (.cells #[.int .i64 0, .string ⟨#[]⟩, .bool false, .int .u64 0, .slice none 0 0, .slice none 0 0, .slice none 0 0, .slice none 0 0] 49)).heap.size := by simp
 clear hx hR hBp
 go_enter Tryz.func53, Tryz.ntmps53
 go_upto_region 1 with fail
 generalize (w.alloc (.cells #[.int .i64 0, .string ⟨#[]⟩, .bool false, .int .u64 0, .slice none 0 0, .slice none 0 0, .slice none 0 0, .slice none 0 0] 49)) = W at *
 have HP := Hd (show caseO (exprO n d) last rest = (wantO sCase last rest).bind fun _ l r => (exprO n d l r).bind fun x l2 r2 => (wantO sOf l2 r2).bind fun _ l3 r3 => (wantO sCurl l3 r3).bind fun _ l4 r4 => if shapeL r4 = sLruc then (wantO sLruc l4 r4).bind fun _ l5 r5 => .ok (.mk 7 [] false 0 [] [x] [] []) l5 r5 else (someO (altO (exprO n d)) l4 r4).bind fun xs l5 r5 => (wantO sLruc l5 r5).bind fun _ l6 r6 => .ok (.mk 7 [] false 0 [] [x] [] xs) l6 r6 from rfl)
 have H0 := Hd (Ai HX.out.2.1 (Ai (grown_of (b := b) (Below.refl W.heap.size W)) HX.out.2.2.2))
 have c0 := H0.out.2.2.env.casew.1.1
 have c1 := H0.out.2.2.env.casew.1.2
 have HC := Hd (want_any b me ma last rest d sCase (by decide) W H0.out.1)
 go_wp2_with fail
 refine HC.out.mono ?_
 rintro e w1 h
 cases ho : wantO sCase last rest with
 | bad er ln =>
  rw [ho] at h
  obtain ⟨hbr, hg⟩ := h
  have hp := HP.out
  rw [ho, bind_bad] at hp
  have HB := Hd (Ai hp (Gt (Gt (grown_of (b := b) HX.out.1) H0.out.2.1) hg))
  unfold Broken at hbr
  subst hbr
  clear hg ho hp HC c0 c1
  go_wp2_with fail
  refine ⟨rfl, ?_⟩
  rw [HB.out.1]
  exact ⟨rfl, HB.out.2⟩
 | ok y l r =>
  rw [ho] at h
  obtain ⟨rfl, hR, hg⟩ := h
  have hlr := congrArg List.length (wantO_less (by decide) ho)
  simp only [List.length_cons] at hlr
  have hp := HP.out
  rw [ho, bind_ok] at hp
  have HQ := Hd hp
  have hgW := Gt H0.out.2.1 hg
  have HG1 := Hd hg
  have hsz1 : W.heap.size ≤ w1.heap.size := hg.size
  have H1 := Hd (Ai hR (Ai hgW (HX.out.2.2.2.later hgW)))
  clear hp ho HP HC hg hgW hR c0 c1
  have HP := HQ
  clear HQ
  have HC := Hd (hEx l r w1 (by omega) (by omega) H1.out.2.2 H1.out.1)
  go_wp2_with fail
  refine HC.out.mono ?_
  rintro e w2 h
  cases ho : exprO n d l r with
  | bad er ln =>
   rw [ho] at h
   obtain ⟨hbr, hg⟩ := h
   have hp := HP.out
   rw [ho, bind_bad] at hp
   have HB := Hd (Ai hp (Gt (Gt (grown_of (b := b) HX.out.1) H1.out.2.1) hg))
   unfold Broken at hbr
   subst hbr
   clear hg ho hp HC 
   go_wp2_with fail
   refine ⟨rfl, ?_⟩
   rw [HB.out.1]
   exact ⟨rfl, HB.out.2⟩
  | ok x l2 r2 =>
   rw [ho] at h
   have hlr2 : r2.length ≤ r.length := by have h := expr_shrinks n d l r; rw [ho] at h; exact h
   obtain ⟨⟨k3, nm3, f3, u3, vp, vk, vb, va, rfl, hat⟩, hR, hg⟩ := h
   obtain ⟨⟨ap3, np3, cp3, rfl⟩, ⟨ak3, nk3, ck3, rfl⟩, ⟨ab3, nb3, cb3, rfl⟩, ⟨aa3, na3, ca3, rfl⟩⟩ := hat.slices
   have HT3 := Hd hat
   clear hat
   have hp := HP.out
   rw [ho, bind_ok] at hp
   have HQ := Hd hp
   have hgW := Gt H1.out.2.1 hg
   have HG2 := Hd hg
   have hsz2 : w1.heap.size ≤ w2.heap.size := hg.size
   have H2 := Hd (Ai hR (Ai hgW (HX.out.2.2.2.later hgW)))
   clear hp ho HP HC hg hgW hR 
   have HP := HQ
   clear HQ
   have hy := (Below.refl w2.heap.size w2).alloc Nr (.cells #[.int .i64 k3, .string nm3, .bool f3, .int .u64 u3, .slice ap3 np3 cp3, .slice ak3 nk3 ck3, .slice ab3 nb3 cb3, .slice aa3 na3 ca3] 49)
   have hBq := BoxW.alloc w2 #[.int .i64 k3, .string nm3, .bool f3, .int .u64 u3, .slice ap3 np3 cp3, .slice ak3 nk3 ck3, .slice ab3 nb3 cb3, .slice aa3 na3 ca3] 49
   have HBq := Hd hBq
   have hg := grown_of (b := b) hy
   have hgW := Gt H2.out.2.1 hg
   have HG3 := Hd hg
   have hsz3 : w2.heap.size + 1 ≤ (w2.alloc (.cells #[.int .i64 k3, .string nm3, .bool f3, .int .u64 u3, .slice ap3 np3 cp3, .slice ak3 nk3 ck3, .slice ab3 nb3 cb3, .slice aa3 na3 ca3] 49)).heap.size := by simp
   have H3 := Hd (Ai (H2.out.1.later hy) (Ai hgW (HX.out.2.2.2.later hgW)))
   clear hg hgW hy hBq
   go_upto_region 3 with fail
   generalize (w2.alloc (.cells #[.int .i64 k3, .string nm3, .bool f3, .int .u64 u3, .slice ap3 np3 cp3, .slice ak3 nk3 ck3, .slice ab3 nb3 cb3, .slice aa3 na3 ca3] 49)) = w3 at *
   have c0 := H3.out.2.2.env.ofw.1.1
   have c1 := H3.out.2.2.env.ofw.1.2
   have HC := Hd (want_any b me ma l2 r2 d sOf (by decide) w3 H3.out.1)
   go_wp2_with fail
   refine HC.out.mono ?_
   rintro e w4 h
   cases ho : wantO sOf l2 r2 with
   | bad er ln =>
    rw [ho] at h
    obtain ⟨hbr, hg⟩ := h
    have hp := HP.out
    rw [ho, bind_bad] at hp
    have HB := Hd (Ai hp (Gt (Gt (grown_of (b := b) HX.out.1) H3.out.2.1) hg))
    unfold Broken at hbr
    subst hbr
    clear hg ho hp HC c0 c1
    go_wp2_with fail
    refine ⟨rfl, ?_⟩
    rw [HB.out.1]
    exact ⟨rfl, HB.out.2⟩
   | ok y3 l3 r3 =>
    rw [ho] at h
    obtain ⟨rfl, hR, hg⟩ := h
    have hlr3 := congrArg List.length (wantO_less (by decide) ho)
    simp only [List.length_cons] at hlr3
    have hp := HP.out
    rw [ho, bind_ok] at hp
    have HQ := Hd hp
    have hgW := Gt H3.out.2.1 hg
    have HG4 := Hd hg
    have hsz4 : w3.heap.size ≤ w4.heap.size := hg.size
    have H4 := Hd (Ai hR (Ai hgW (HX.out.2.2.2.later hgW)))
    clear hp ho HP HC hg hgW hR c0 c1
    have HP := HQ
    clear HQ
    replace HBq := Hd (boxw_grown HBq.out HG4.out (by omega))
    have c0 := H4.out.2.2.env.curl.1.1
    have c1 := H4.out.2.2.env.curl.1.2
    have HC := Hd (want_any b me ma l3 r3 d sCurl (by decide) w4 H4.out.1)
    go_wp2_with fail
    refine HC.out.mono ?_
    rintro e w5 h
    cases ho : wantO sCurl l3 r3 with
    | bad er ln =>
     rw [ho] at h
     obtain ⟨hbr, hg⟩ := h
     have hp := HP.out
     rw [ho, bind_bad] at hp
     have HB := Hd (Ai hp (Gt (Gt (grown_of (b := b) HX.out.1) H4.out.2.1) hg))
     unfold Broken at hbr
     subst hbr
     clear hg ho hp HC c0 c1
     go_wp2_with fail
     refine ⟨rfl, ?_⟩
     rw [HB.out.1]
     exact ⟨rfl, HB.out.2⟩
    | ok y4 l4 r4 =>
     rw [ho] at h
     obtain ⟨rfl, hR, hg⟩ := h
     have hlr4 := congrArg List.length (wantO_less (by decide) ho)
     simp only [List.length_cons] at hlr4
     have hp := HP.out
     rw [ho, bind_ok] at hp
     have HQ := Hd hp
     have hgW := Gt H4.out.2.1 hg
     have HG5 := Hd hg
     have hsz5 : w4.heap.size ≤ w5.heap.size := hg.size
     have H5 := Hd (Ai hR (Ai hgW (HX.out.2.2.2.later hgW)))
     clear hp ho HP HC hg hgW hR c0 c1
     have HP := HQ
     clear HQ
     replace HBq := Hd (boxw_grown HBq.out HG5.out (by omega))
     have c0 := H5.out.2.2.env.lruc.1.1
     have c1 := H5.out.2.2.env.lruc.1.2
     have HC := Hd (isAhead_any b me ma l4 r4 d sLruc w5 H5.out.1)
     go_wp2_with fail
     refine HC.out.mono ?_
     rintro e w6 ⟨rfl, hb⟩
     have hg := grown_of (b := b) hb
     have hgW := Gt H5.out.2.1 hg
     have HG6 := Hd hg
     have hsz6 : w5.heap.size ≤ w6.heap.size := hg.size
     have H6 := Hd (Ai (H5.out.1.later hb) (Ai hgW (HX.out.2.2.2.later hgW)))
     clear HC hg hgW hb c0 c1
     replace HBq := Hd (boxw_grown HBq.out HG6.out (by omega))
     by_cases gs : shapeL r4 = sLruc
     ·rw [decide_eq_true gs]
      have hp := HP.out
      rw [if_pos gs] at hp
      have HQ := Hd hp
      clear hp gs HP
      have HP := HQ
      clear HQ
      have c0 := H6.out.2.2.env.lruc.1.1
      have c1 := H6.out.2.2.env.lruc.1.2
      have HC := Hd (want_any b me ma l4 r4 d sLruc (by decide) w6 H6.out.1)
      go_wp2_with fail
      refine HC.out.mono ?_
      rintro e w7 h
      cases ho : wantO sLruc l4 r4 with
      | bad er ln =>
       rw [ho] at h
       obtain ⟨hbr, hg⟩ := h
       have hp := HP.out
       rw [ho, bind_bad] at hp
       have HB := Hd (Ai hp (Gt (Gt (grown_of (b := b) HX.out.1) H6.out.2.1) hg))
       unfold Broken at hbr
       subst hbr
       clear hg ho hp HC c0 c1
       go_wp2_with fail
       refine ⟨rfl, ?_⟩
       rw [HB.out.1]
       exact ⟨rfl, HB.out.2⟩
      | ok y5 l5 r5 =>
       rw [ho] at h
       obtain ⟨rfl, hR, hg⟩ := h
       have hlr5 := congrArg List.length (wantO_less (by decide) ho)
       simp only [List.length_cons] at hlr5
       have hp := HP.out
       rw [ho, bind_ok] at hp
       have HQ := Hd hp
       have hgW := Gt H6.out.2.1 hg
       have HG7 := Hd hg
       have hsz7 : w6.heap.size ≤ w7.heap.size := hg.size
       have H7 := Hd (Ai hR (Ai hgW (HX.out.2.2.2.later hgW)))
       clear hp ho HP HC hg hgW hR c0 c1
       have HP := HQ
       clear HQ
       replace HBq := Hd (boxw_grown HBq.out HG7.out (by omega))
       obtain ⟨q0, q1, q2, q3, q4, q5, q6, q7⟩ := (HBq.out).q8
       have hy := (Below.refl w7.heap.size w7).alloc Nr (.cells #[.int .i64 k3, .string nm3, .bool f3, .int .u64 u3, .slice ap3 np3 cp3, .slice ak3 nk3 ck3, .slice ab3 nb3 cb3, .slice aa3 na3 ca3] 49)
       have hszA : w7.heap.size ≤ (w7.alloc (.cells #[.int .i64 k3, .string nm3, .bool f3, .int .u64 u3, .slice ap3 np3 cp3, .slice ak3 nk3 ck3, .slice ab3 nb3 cb3, .slice aa3 na3 ca3] 49)).heap.size := hy.size
       have hBp : BoxW (w7.alloc (.cells #[.int .i64 k3, .string nm3, .bool f3, .int .u64 u3, .slice ap3 np3 cp3, .slice ak3 nk3 ck3, .slice ab3 nb3 cb3, .slice aa3 na3 ca3] 49)) w.heap.size [.int .i64 0, .string ⟨#[]⟩, .bool false, .int .u64 0, .slice none 0 0, .slice none 0 0, .slice none 0 0, .slice none 0 0] := boxw_grown HX.out.2.2.1 (Gt H7.out.2.1 (grown_of (b := b) hy)) (by omega)
       have d0 : (w7.alloc (.cells #[.int .i64 k3, .string nm3, .bool f3, .int .u64 u3, .slice ap3 np3 cp3, .slice ak3 nk3 ck3, .slice ab3 nb3 cb3, .slice aa3 na3 ca3] 49)).cell? ⟨w.heap.size, 0, none⟩ = some _ := hBp.1 0 _ rfl
       have d1 : (w7.alloc (.cells #[.int .i64 k3, .string nm3, .bool f3, .int .u64 u3, .slice ap3 np3 cp3, .slice ak3 nk3 ck3, .slice ab3 nb3 cb3, .slice aa3 na3 ca3] 49)).cell? ⟨w.heap.size, 1, none⟩ = some _ := hBp.1 1 _ rfl
       have d2 : (w7.alloc (.cells #[.int .i64 k3, .string nm3, .bool f3, .int .u64 u3, .slice ap3 np3 cp3, .slice ak3 nk3 ck3, .slice ab3 nb3 cb3, .slice aa3 na3 ca3] 49)).cell? ⟨w.heap.size, 2, none⟩ = some _ := hBp.1 2 _ rfl
       have d3 : (w7.alloc (.cells #[.int .i64 k3, .string nm3, .bool f3, .int .u64 u3, .slice ap3 np3 cp3, .slice ak3 nk3 ck3, .slice ab3 nb3 cb3, .slice aa3 na3 ca3] 49)).cell? ⟨w.heap.size, 3, none⟩ = some _ := hBp.1 3 _ rfl
       have d4 : (w7.alloc (.cells #[.int .i64 k3, .string nm3, .bool f3, .int .u64 u3, .slice ap3 np3 cp3, .slice ak3 nk3 ck3, .slice ab3 nb3 cb3, .slice aa3 na3 ca3] 49)).cell? ⟨w.heap.size, 4, none⟩ = some _ := hBp.1 4 _ rfl
       have d5 : (w7.alloc (.cells #[.int .i64 k3, .string nm3, .bool f3, .int .u64 u3, .slice ap3 np3 cp3, .slice ak3 nk3 ck3, .slice ab3 nb3 cb3, .slice aa3 na3 ca3] 49)).cell? ⟨w.heap.size, 5, none⟩ = some _ := hBp.1 5 _ rfl
       have d6 : (w7.alloc (.cells #[.int .i64 k3, .string nm3, .bool f3, .int .u64 u3, .slice ap3 np3 cp3, .slice ak3 nk3 ck3, .slice ab3 nb3 cb3, .slice aa3 na3 ca3] 49)).cell? ⟨w.heap.size, 6, none⟩ = some _ := hBp.1 6 _ rfl
       have d7 : (w7.alloc (.cells #[.int .i64 k3, .string nm3, .bool f3, .int .u64 u3, .slice ap3 np3 cp3, .slice ak3 nk3 ck3, .slice ab3 nb3 cb3, .slice aa3 na3 ca3] 49)).cell? ⟨w.heap.size, 7, none⟩ = some _ := hBp.1 7 _ rfl
       have z0 : (w7.alloc (.cells #[.int .i64 k3, .string nm3, .bool f3, .int .u64 u3, .slice ap3 np3 cp3, .slice ak3 nk3 ck3, .slice ab3 nb3 cb3, .slice aa3 na3 ca3] 49)).frozen? ⟨w.heap.size, 0, none⟩ = false := hBp.2 0
       have z1 : (w7.alloc (.cells #[.int .i64 k3, .string nm3, .bool f3, .int .u64 u3, .slice ap3 np3 cp3, .slice ak3 nk3 ck3, .slice ab3 nb3 cb3, .slice aa3 na3 ca3] 49)).frozen? ⟨w.heap.size, 1, none⟩ = false := hBp.2 1
       have z2 : (w7.alloc (.cells #[.int .i64 k3, .string nm3, .bool f3, .int .u64 u3, .slice ap3 np3 cp3, .slice ak3 nk3 ck3, .slice ab3 nb3 cb3, .slice aa3 na3 ca3] 49)).frozen? ⟨w.heap.size, 2, none⟩ = false := hBp.2 2
       have z3 : (w7.alloc (.cells #[.int .i64 k3, .string nm3, .bool f3, .int .u64 u3, .slice ap3 np3 cp3, .slice ak3 nk3 ck3, .slice ab3 nb3 cb3, .slice aa3 na3 ca3] 49)).frozen? ⟨w.heap.size, 3, none⟩ = false := hBp.2 3
       have z4 : (w7.alloc (.cells #[.int .i64 k3, .string nm3, .bool f3, .int .u64 u3, .slice ap3 np3 cp3, .slice ak3 nk3 ck3, .slice ab3 nb3 cb3, .slice aa3 na3 ca3] 49)).frozen? ⟨w.heap.size, 4, none⟩ = false := hBp.2 4
       have z5 : (w7.alloc (.cells #[.int .i64 k3, .string nm3, .bool f3, .int .u64 u3, .slice ap3 np3 cp3, .slice ak3 nk3 ck3, .slice ab3 nb3 cb3, .slice aa3 na3 ca3] 49)).frozen? ⟨w.heap.size, 5, none⟩ = false := hBp.2 5
       have z6 : (w7.alloc (.cells #[.int .i64 k3, .string nm3, .bool f3, .int .u64 u3, .slice ap3 np3 cp3, .slice ak3 nk3 ck3, .slice ab3 nb3 cb3, .slice aa3 na3 ca3] 49)).frozen? ⟨w.heap.size, 6, none⟩ = false := hBp.2 6
       have z7 : (w7.alloc (.cells #[.int .i64 k3, .string nm3, .bool f3, .int .u64 u3, .slice ap3 np3 cp3, .slice ak3 nk3 ck3, .slice ab3 nb3 cb3, .slice aa3 na3 ca3] 49)).frozen? ⟨w.heap.size, 7, none⟩ = false := hBp.2 7
       have HBp := Hd hBp
       clear hBp
       go_wp2_with fail
       have hF := ((HBp.out)).b8v (.int .i64 7) (.string ⟨#[]⟩) (.bool false) (.int .u64 0) (.slice none 0 0) (.slice (some ⟨w7.heap.size, 0, none⟩) 1 1) (.slice none 0 0) (.slice none 0 0)
       have v0 := hF.1 0 _ rfl
       have v1 := hF.1 1 _ rfl
       have v2 := hF.1 2 _ rfl
       have v3 := hF.1 3 _ rfl
       have v4 := hF.1 4 _ rfl
       have v5 := hF.1 5 _ rfl
       have v6 := hF.1 6 _ rfl
       have v7 := hF.1 7 _ rfl
       refine bodyPost_ret (v := .agg #[.int .i64 7, .string ⟨#[]⟩, .bool false, .int .u64 0, .slice none 0 0, .slice (some ⟨w7.heap.size, 0, none⟩) 1 1, .slice none 0 0, .slice none 0 0]) (by simp [results, Tryz.results53, go_sem, v0, v1, v2, v3, v4, v5, v6, v7]) rfl ?_
       rw [HP.out]
       refine ⟨⟨_, _, _, _, _, _, _, _, rfl, ?_⟩, (((((((((H7.out.1.later hy)).over hlt _).over hlt _).over hlt _).over hlt _).over hlt _).over hlt _).over hlt _).over hlt _, (grown_new (grown_new (grown_new (grown_new (grown_new (grown_new (grown_new (grown_new (Gt (grown_of (b := b) HX.out.1) (Gt H7.out.2.1 (grown_of (b := b) hy))) Nr _) Nr _) Nr _) Nr _) Nr _) Nr _) Nr _) Nr _)⟩
       exact .mk 7 [] false 0 [] [x] [] [] _ _ _ (.slice none 0 0) [.int .i64 k3, .string nm3, .bool f3, .int .u64 u3, .slice ap3 np3 cp3, .slice ak3 nk3 ck3, .slice ab3 nb3 cb3, .slice aa3 na3 ca3] [] [] (RowAt.nil _ _ _ _) ((RowAt.own (own_built (g := w7.heap.size) (base := w7.heap.size) (n := 1) (cs := #[.int .i64 k3, .string nm3, .bool f3, .int .u64 u3, .slice ap3 np3 cp3, .slice ak3 nk3 ck3, .slice ab3 nb3 cb3, .slice aa3 na3 ca3]) (heap_alloc_new _ _) Nr rfl (by decide))).kp ((Kp.s8 (Or.inl (by omega)))) (by omega)) (RowAt.nil _ _ _ _) (RowAt.nil _ _ _ _) (ExsAt.cons x [] [.int .i64 k3, .string nm3, .bool f3, .int .u64 u3, .slice ap3 np3 cp3, .slice ak3 nk3 ck3, .slice ab3 nb3 cb3, .slice aa3 na3 ca3] [] ((HT3.out).kp ((((((((((((Kp.grown HG3.out (by omega) (by omega)).trans (Kp.grown HG4.out (by omega) (by omega)))).trans (Kp.grown HG5.out (by omega) (by omega)))).trans (Kp.grown HG6.out (by omega) (by omega)))).trans (Kp.grown HG7.out (by omega) (by omega)))).trans (Kp.below hy (by omega)))).trans ((Kp.s8 (Or.inl (by omega))))) (by omega)) .nil) .nil .nil
     ·rw [decide_eq_false gs]
      have hp := HP.out
      rw [if_neg gs] at hp
      have HQ := Hd hp
      clear hp gs HP
      have HP := HQ
      clear HQ
      have HC := Hd (alts_any b me ma B n d hEx l4 r4 (by omega) (by omega) w6 H6.out.2.2 H6.out.1)
      go_wp2_with fail
      refine HC.out.mono ?_
      rintro e w7 h
      cases ho : someO (altO (exprO n d)) l4 r4 with
      | bad er ln =>
       rw [ho] at h
       obtain ⟨hbr, hg⟩ := h
       have hp := HP.out
       rw [ho, bind_bad] at hp
       have HB := Hd (Ai hp (Gt (Gt (grown_of (b := b) HX.out.1) H6.out.2.1) hg))
       unfold Broken at hbr
       subst hbr
       clear hg ho hp HC 
       go_wp2_with fail
       refine ⟨rfl, ?_⟩
       rw [HB.out.1]
       exact ⟨rfl, HB.out.2⟩
      | ok xs l5 r5 =>
       rw [ho] at h
       have hlr5 : r5.length ≤ r4.length := by have h := some_shrinks (alt_shrinks (expr_shrinks n d)) l4 r4; rw [ho] at h; exact h
       obtain ⟨⟨v, csL, rfl, hown, hat⟩, hR, hg⟩ := h
       obtain ⟨aL, cL, rfl, -⟩ := own_shape hown
       have HTL := Hd (Ai hown hat)
       clear hown hat
       have hp := HP.out
       rw [ho, bind_ok] at hp
       have HQ := Hd hp
       have hgW := Gt H6.out.2.1 hg
       have HG7 := Hd hg
       have hsz7 : w6.heap.size ≤ w7.heap.size := hg.size
       have H7 := Hd (Ai hR (Ai hgW (HX.out.2.2.2.later hgW)))
       clear hp ho HP HC hg hgW hR 
       have HP := HQ
       clear HQ
       replace HBq := Hd (boxw_grown HBq.out HG7.out (by omega))
       have c0 := H7.out.2.2.env.lruc.1.1
       have c1 := H7.out.2.2.env.lruc.1.2
       have HC := Hd (want_any b me ma l5 r5 d sLruc (by decide) w7 H7.out.1)
       go_wp2_with fail
       refine HC.out.mono ?_
       rintro e w8 h
       cases ho : wantO sLruc l5 r5 with
       | bad er ln =>
        rw [ho] at h
        obtain ⟨hbr, hg⟩ := h
        have hp := HP.out
        rw [ho, bind_bad] at hp
        have HB := Hd (Ai hp (Gt (Gt (grown_of (b := b) HX.out.1) H7.out.2.1) hg))
        unfold Broken at hbr
        subst hbr
        clear hg ho hp HC c0 c1
        go_wp2_with fail
        refine ⟨rfl, ?_⟩
        rw [HB.out.1]
        exact ⟨rfl, HB.out.2⟩
       | ok y6 l6 r6 =>
        rw [ho] at h
        obtain ⟨rfl, hR, hg⟩ := h
        have hlr6 := congrArg List.length (wantO_less (by decide) ho)
        simp only [List.length_cons] at hlr6
        have hp := HP.out
        rw [ho, bind_ok] at hp
        have HQ := Hd hp
        have hgW := Gt H7.out.2.1 hg
        have HG8 := Hd hg
        have hsz8 : w7.heap.size ≤ w8.heap.size := hg.size
        have H8 := Hd (Ai hR (Ai hgW (HX.out.2.2.2.later hgW)))
        clear hp ho HP HC hg hgW hR c0 c1
        have HP := HQ
        clear HQ
        replace HBq := Hd (boxw_grown HBq.out HG8.out (by omega))
        obtain ⟨q0, q1, q2, q3, q4, q5, q6, q7⟩ := (HBq.out).q8
        have hy := (Below.refl w8.heap.size w8).alloc Nr (.cells #[.int .i64 k3, .string nm3, .bool f3, .int .u64 u3, .slice ap3 np3 cp3, .slice ak3 nk3 ck3, .slice ab3 nb3 cb3, .slice aa3 na3 ca3] 49)
        have hszA : w8.heap.size ≤ (w8.alloc (.cells #[.int .i64 k3, .string nm3, .bool f3, .int .u64 u3, .slice ap3 np3 cp3, .slice ak3 nk3 ck3, .slice ab3 nb3 cb3, .slice aa3 na3 ca3] 49)).heap.size := hy.size
        have hBp : BoxW (w8.alloc (.cells #[.int .i64 k3, .string nm3, .bool f3, .int .u64 u3, .slice ap3 np3 cp3, .slice ak3 nk3 ck3, .slice ab3 nb3 cb3, .slice aa3 na3 ca3] 49)) w.heap.size [.int .i64 0, .string ⟨#[]⟩, .bool false, .int .u64 0, .slice none 0 0, .slice none 0 0, .slice none 0 0, .slice none 0 0] := boxw_grown HX.out.2.2.1 (Gt H8.out.2.1 (grown_of (b := b) hy)) (by omega)
        have d0 : (w8.alloc (.cells #[.int .i64 k3, .string nm3, .bool f3, .int .u64 u3, .slice ap3 np3 cp3, .slice ak3 nk3 ck3, .slice ab3 nb3 cb3, .slice aa3 na3 ca3] 49)).cell? ⟨w.heap.size, 0, none⟩ = some _ := hBp.1 0 _ rfl
        have d1 : (w8.alloc (.cells #[.int .i64 k3, .string nm3, .bool f3, .int .u64 u3, .slice ap3 np3 cp3, .slice ak3 nk3 ck3, .slice ab3 nb3 cb3, .slice aa3 na3 ca3] 49)).cell? ⟨w.heap.size, 1, none⟩ = some _ := hBp.1 1 _ rfl
        have d2 : (w8.alloc (.cells #[.int .i64 k3, .string nm3, .bool f3, .int .u64 u3, .slice ap3 np3 cp3, .slice ak3 nk3 ck3, .slice ab3 nb3 cb3, .slice aa3 na3 ca3] 49)).cell? ⟨w.heap.size, 2, none⟩ = some _ := hBp.1 2 _ rfl
        have d3 : (w8.alloc (.cells #[.int .i64 k3, .string nm3, .bool f3, .int .u64 u3, .slice ap3 np3 cp3, .slice ak3 nk3 ck3, .slice ab3 nb3 cb3, .slice aa3 na3 ca3] 49)).cell? ⟨w.heap.size, 3, none⟩ = some _ := hBp.1 3 _ rfl
        have d4 : (w8.alloc (.cells #[.int .i64 k3, .string nm3, .bool f3, .int .u64 u3, .slice ap3 np3 cp3, .slice ak3 nk3 ck3, .slice ab3 nb3 cb3, .slice aa3 na3 ca3] 49)).cell? ⟨w.heap.size, 4, none⟩ = some _ := hBp.1 4 _ rfl
        have d5 : (w8.alloc (.cells #[.int .i64 k3, .string nm3, .bool f3, .int .u64 u3, .slice ap3 np3 cp3, .slice ak3 nk3 ck3, .slice ab3 nb3 cb3, .slice aa3 na3 ca3] 49)).cell? ⟨w.heap.size, 5, none⟩ = some _ := hBp.1 5 _ rfl
        have d6 : (w8.alloc (.cells #[.int .i64 k3, .string nm3, .bool f3, .int .u64 u3, .slice ap3 np3 cp3, .slice ak3 nk3 ck3, .slice ab3 nb3 cb3, .slice aa3 na3 ca3] 49)).cell? ⟨w.heap.size, 6, none⟩ = some _ := hBp.1 6 _ rfl
        have d7 : (w8.alloc (.cells #[.int .i64 k3, .string nm3, .bool f3, .int .u64 u3, .slice ap3 np3 cp3, .slice ak3 nk3 ck3, .slice ab3 nb3 cb3, .slice aa3 na3 ca3] 49)).cell? ⟨w.heap.size, 7, none⟩ = some _ := hBp.1 7 _ rfl
        have z0 : (w8.alloc (.cells #[.int .i64 k3, .string nm3, .bool f3, .int .u64 u3, .slice ap3 np3 cp3, .slice ak3 nk3 ck3, .slice ab3 nb3 cb3, .slice aa3 na3 ca3] 49)).frozen? ⟨w.heap.size, 0, none⟩ = false := hBp.2 0
        have z1 : (w8.alloc (.cells #[.int .i64 k3, .string nm3, .bool f3, .int .u64 u3, .slice ap3 np3 cp3, .slice ak3 nk3 ck3, .slice ab3 nb3 cb3, .slice aa3 na3 ca3] 49)).frozen? ⟨w.heap.size, 1, none⟩ = false := hBp.2 1
        have z2 : (w8.alloc (.cells #[.int .i64 k3, .string nm3, .bool f3, .int .u64 u3, .slice ap3 np3 cp3, .slice ak3 nk3 ck3, .slice ab3 nb3 cb3, .slice aa3 na3 ca3] 49)).frozen? ⟨w.heap.size, 2, none⟩ = false := hBp.2 2
        have z3 : (w8.alloc (.cells #[.int .i64 k3, .string nm3, .bool f3, .int .u64 u3, .slice ap3 np3 cp3, .slice ak3 nk3 ck3, .slice ab3 nb3 cb3, .slice aa3 na3 ca3] 49)).frozen? ⟨w.heap.size, 3, none⟩ = false := hBp.2 3
        have z4 : (w8.alloc (.cells #[.int .i64 k3, .string nm3, .bool f3, .int .u64 u3, .slice ap3 np3 cp3, .slice ak3 nk3 ck3, .slice ab3 nb3 cb3, .slice aa3 na3 ca3] 49)).frozen? ⟨w.heap.size, 4, none⟩ = false := hBp.2 4
        have z5 : (w8.alloc (.cells #[.int .i64 k3, .string nm3, .bool f3, .int .u64 u3, .slice ap3 np3 cp3, .slice ak3 nk3 ck3, .slice ab3 nb3 cb3, .slice aa3 na3 ca3] 49)).frozen? ⟨w.heap.size, 5, none⟩ = false := hBp.2 5
        have z6 : (w8.alloc (.cells #[.int .i64 k3, .string nm3, .bool f3, .int .u64 u3, .slice ap3 np3 cp3, .slice ak3 nk3 ck3, .slice ab3 nb3 cb3, .slice aa3 na3 ca3] 49)).frozen? ⟨w.heap.size, 6, none⟩ = false := hBp.2 6
        have z7 : (w8.alloc (.cells #[.int .i64 k3, .string nm3, .bool f3, .int .u64 u3, .slice ap3 np3 cp3, .slice ak3 nk3 ck3, .slice ab3 nb3 cb3, .slice aa3 na3 ca3] 49)).frozen? ⟨w.heap.size, 7, none⟩ = false := hBp.2 7
        have HBp := Hd hBp
        clear hBp
        go_wp2_with fail
        have hF := ((HBp.out)).b8v (.int .i64 7) (.string ⟨#[]⟩) (.bool false) (.int .u64 0) (.slice none 0 0) (.slice (some ⟨w8.heap.size, 0, none⟩) 1 1) (.slice none 0 0) (.slice aL xs.length cL)
        have v0 := hF.1 0 _ rfl
        have v1 := hF.1 1 _ rfl
        have v2 := hF.1 2 _ rfl
        have v3 := hF.1 3 _ rfl
        have v4 := hF.1 4 _ rfl
        have v5 := hF.1 5 _ rfl
        have v6 := hF.1 6 _ rfl
        have v7 := hF.1 7 _ rfl
        refine bodyPost_ret (v := .agg #[.int .i64 7, .string ⟨#[]⟩, .bool false, .int .u64 0, .slice none 0 0, .slice (some ⟨w8.heap.size, 0, none⟩) 1 1, .slice none 0 0, .slice aL xs.length cL]) (by simp [results, Tryz.results53, go_sem, v0, v1, v2, v3, v4, v5, v6, v7]) rfl ?_
        rw [HP.out]
        refine ⟨⟨_, _, _, _, _, _, _, _, rfl, ?_⟩, (((((((((H8.out.1.later hy)).over hlt _).over hlt _).over hlt _).over hlt _).over hlt _).over hlt _).over hlt _).over hlt _, (grown_new (grown_new (grown_new (grown_new (grown_new (grown_new (grown_new (grown_new (Gt (grown_of (b := b) HX.out.1) (Gt H8.out.2.1 (grown_of (b := b) hy))) Nr _) Nr _) Nr _) Nr _) Nr _) Nr _) Nr _) Nr _)⟩
        exact .mk 7 [] false 0 [] [x] [] xs _ _ _ (.slice aL xs.length cL) [.int .i64 k3, .string nm3, .bool f3, .int .u64 u3, .slice ap3 np3 cp3, .slice ak3 nk3 ck3, .slice ab3 nb3 cb3, .slice aa3 na3 ca3] [] csL (RowAt.nil _ _ _ _) ((RowAt.own (own_built (g := w8.heap.size) (base := w8.heap.size) (n := 1) (cs := #[.int .i64 k3, .string nm3, .bool f3, .int .u64 u3, .slice ap3 np3 cp3, .slice ak3 nk3 ck3, .slice ab3 nb3 cb3, .slice aa3 na3 ca3]) (heap_alloc_new _ _) Nr rfl (by decide))).kp ((Kp.s8 (Or.inl (by omega)))) (by omega)) (RowAt.nil _ _ _ _) ((RowAt.own HTL.out.1).kp ((((Kp.grown HG8.out (by omega) (by omega)).trans (Kp.below hy (by omega)))).trans ((Kp.s8 (Or.inl (by omega))))) (by omega)) (ExsAt.cons x [] [.int .i64 k3, .string nm3, .bool f3, .int .u64 u3, .slice ap3 np3 cp3, .slice ak3 nk3 ck3, .slice ab3 nb3 cb3, .slice aa3 na3 ca3] [] ((HT3.out).kp ((((((((((((((Kp.grown HG3.out (by omega) (by omega)).trans (Kp.grown HG4.out (by omega) (by omega)))).trans (Kp.grown HG5.out (by omega) (by omega)))).trans (Kp.grown HG6.out (by omega) (by omega)))).trans (Kp.grown HG7.out (by omega) (by omega)))).trans (Kp.grown HG8.out (by omega) (by omega)))).trans (Kp.below hy (by omega)))).trans ((Kp.s8 (Or.inl (by omega))))) (by omega)) .nil) .nil ((HTL.out.2).kp ((((Kp.grown HG8.out (by omega) (by omega)).trans (Kp.below hy (by omega)))).trans ((Kp.s8 (Or.inl (by omega))))) (by omega))
theorem form_step (b me ma : Nat) (B : Bx) (n d : Nat) (hEx : ExprC b me ma B n d) : FormC b me ma B n d := by
 intro last rest W f first cap hn hL hC hR hl
 have hb : ∀ v, lookSh (exprForms b) (shapeL rest) = some v → (shapeL rest = sLet ∧ v = meth 52 b) ∨ (shapeL rest = sCase ∧ v = meth 53 b) ∨ (shapeL rest = sLam ∧ v = meth 54 b) ∨ ((shapeL rest ≠ sLet ∧ shapeL rest ≠ sCase ∧ shapeL rest ≠ sLam) ∧ v = meth 55 b) := by
  intro v hv
  generalize shapeL rest = s at hv
  by_cases h1 : s = sLet
  ·subst h1; cases hv; exact Or.inl ⟨rfl, rfl⟩
  by_cases h2 : s = sCase
  ·subst h2; cases hv; exact Or.inr (Or.inl ⟨rfl, rfl⟩)
  by_cases h3 : s = sLam
  ·subst h3; cases hv; exact Or.inr (Or.inr (Or.inl ⟨rfl, rfl⟩))
  refine Or.inr (Or.inr (Or.inr ⟨⟨h1, h2, h3⟩, ?_⟩))
  by_cases h4 : s = sName
  ·subst h4; cases hv; rfl
  by_cases h5 : s = sCon
  ·subst h5; cases hv; rfl
  by_cases h6 : s = sNum
  ·subst h6; cases hv; rfl
  by_cases h7 : s = sBack
  ·subst h7; cases hv; rfl
  by_cases h8 : s = sOpen
  ·subst h8; cases hv; rfl
  ·simp [lookSh, exprForms, Ne.symm h1, Ne.symm h2, Ne.symm h3, Ne.symm h4, Ne.symm h5, Ne.symm h6, Ne.symm h7, Ne.symm h8] at hv
 rcases hb _ hl with ⟨g, e⟩ | ⟨g, e⟩ | ⟨g, e⟩ | ⟨⟨g1, g2, g3⟩, e⟩
 ·cases e
  have hbody : bodyO n d last rest = letO (exprO n d) last rest := by unfold bodyO; rw [if_pos g]
  rw [hbody]
  exact let_any b me ma B n d hEx last rest hn hL W hC hR
 ·cases e
  have hbody : bodyO n d last rest = caseO (exprO n d) last rest := by unfold bodyO; rw [g, if_neg (by decide), if_pos rfl]
  rw [hbody]
  exact case_any b me ma B n d hEx last rest hn hL W hC hR
 ·cases e
  have hbody : bodyO n d last rest = lamO (exprO n d) last rest := by unfold bodyO; rw [g, if_neg (by decide), if_neg (by decide), if_pos rfl]
  rw [hbody]
  exact lam_any b me ma B n d hEx last rest hn hL W hC hR
 ·cases e
  have hbody : bodyO n d last rest = rowsO (exprO n d) last rest := by unfold bodyO; rw [if_neg g1, if_neg g2, if_neg g3]
  rw [hbody]
  exact rows_any b me ma B n d hEx last rest hn hL W hC hR
theorem expr_all (b me ma : Nat) (B : Bx) : ∀ (n d : Nat), d ≤ 200 → ExprC b me ma B n d
 | 0, d, _ => fun last rest W hn => absurd hn (Nat.not_lt_zero _)
 | n + 1, d, hd => expr_step b me ma B n d hd fun g => form_step b me ma B n (d + 1) (expr_all b me ma B n (d + 1) (by omega))
def arityO : Par Int := fun l r => if shapeL r = sNum then (takeO l r).bind fun u l2 r2 => if u.1.f = true ∨ 24 < u.1.x then refuseO 1 l r else .ok u.1.x l2 r2 else refuseO 3 l r
theorem declsO_succ (n : Nat) (acc : List (Nm × Int)) (last : Int) (y : Tok) (r : List Tok) (h : shapeL (y :: r) = sCon) : declsO (n + 1) acc last (y :: r) = (arityO y.2 r).bind fun x l2 r2 => declsO n (acc ++ [(y.1.t, x)]) l2 r2 := by
 conv => lhs; unfold declsO
 rw [if_pos h]
 simp only [takeO, Out.bind]
 unfold arityO
 by_cases g : shapeL r = sNum
 ·rw [if_pos g, if_pos g]
  obtain ⟨u, q, rfl⟩ := take_of g (by decide)
  simp only [takeO, Out.bind]
  by_cases g2 : u.1.f = true ∨ 24 < u.1.x
  ·rw [if_pos g2, if_pos g2]
   simp [refuseO]
  ·rw [if_neg g2, if_neg g2]
 ·rw [if_neg g, if_neg g, refuseO_eq, refuseO_eq]
theorem arity_strict {last l : Int} {rest r : List Tok} {x : Int} (h : arityO last rest = .ok x l r) : r.length < rest.length := by
 unfold arityO at h
 split at h
 ·rename_i g
  obtain ⟨u, q, rfl⟩ := take_of g (by decide)
  simp only [takeO, Out.bind] at h
  split at h
  ·simp [refuseO] at h
  ·cases h; simp
 ·rw [refuseO_eq] at h; cases h
theorem arity_any (b me ma : Nat) (last : Int) (rest : List Tok) (d : Nat) (hX : ∀ y, y ∈ rest → 0 ≤ y.1.x) (w : World) (hE : Env8 w b) (hR : Rdr w b me ma last rest d) : Calls Tryz.prog 94 #[.pointer (some ⟨b, 0, none⟩)] w (OutSaid b me ma d (fun x e _ => e = .returned (.int .i64 x)) (arityO last rest) w) := by
 have HE := Hd (Ai hE hR)
 have c0 := hE.num.1.1
 have c1 := hE.num.1.2
 have HA := Hd (isAhead_any b me ma last rest d sNum w hR)
 clear hE hR
 go_enter Tryz.func94, Tryz.ntmps94
 go_wp2_with fail
 refine HA.out.mono ?_
 rintro e w1 ⟨rfl, hb⟩
 have H1 := Hd (Ai hb (HE.out.2.later hb))
 clear hb HA c0 c1
 by_cases g : shapeL rest = sNum
 ·rw [decide_eq_true g]
  obtain ⟨u, q, rfl⟩ := take_of g (by decide)
  have hu := hX u (List.mem_cons_self ..)
  have hp : arityO last (u :: q) = if u.1.f = true ∨ 24 < u.1.x then refuseO 1 last (u :: q) else .ok u.1.x u.2 q := by unfold arityO; rw [if_pos g]; rfl
  have HP := Hd hp
  have HB := Hd (ahead_any b me ma last (u :: q) d w1 H1.out.2)
  have hf2 := fun W => tok_field2 u.1.k (tx u.1.t) u.1.f u.1.x u.2 W
  clear g hp hX
  go_wp2_with fail
  refine HB.out.mono ?_
  rintro e w2 ⟨rfl, hb⟩
  have H2 := Hd (Ai (onB' H1.out.1 hb) (H1.out.2.later hb))
  clear hb HB
  have hy := (Below.refl w2.heap.size w2).alloc Nr (.cells #[.bool u.1.f, .int .u64 u.1.x] 39)
  have H3 := Hd (Ai (onB' H2.out.1 hy) (H2.out.2.later hy))
  have HBx := Hd (BoxW.alloc w2 #[.bool u.1.f, .int .u64 u.1.x] 39)
  have hsz : w2.heap.size + 1 ≤ (w2.alloc (.cells #[.bool u.1.f, .int .u64 u.1.x] 39)).heap.size := by simp
  have hlt : b < w2.heap.size := Bl H2.out.2.c1
  clear hy
  simp only [tokO]
  go_upto_region 4 with fail
  generalize (w2.alloc (.cells #[.bool u.1.f, .int .u64 u.1.x] 39)) = W at *
  have q0 := HBx.out.1 0 _ rfl
  have q1 := HBx.out.1 1 _ rfl
  have HRf := Hd (refuse_any b me ma last (u :: q) d 1 W H3.out.2)
  have HT := Hd (take_any b me ma last u q d W H3.out.2)
  clear hf2
  have bad : u.1.f = true ∨ 24 < u.1.x → ∀ e w', BrokenSaid (refE 1 last (u :: q)) W e w' → OutSaid b me ma d (fun x e _ => e = .returned (.int .i64 x)) (arityO last (u :: q)) w e w' := by
   intro hg e w' ⟨hbr, hb⟩
   rw [HP.out, if_pos hg, refuseO_eq]
   exact ⟨hbr, grown_of (onB' H3.out.1 hb)⟩
  have HBad := Hd bad
  clear bad
  by_cases gf : u.1.f = true
  ·rw [gf] at q0
   have HG := Hd (HBad.out (Or.inl gf))
   go_wp2_with fail
   refine HRf.out.mono ?_
   rintro e w3 h3
   have HH := Hd (HG.out e w3 h3)
   obtain ⟨hbr, hb⟩ := h3
   unfold Broken at hbr
   subst hbr
   clear hb
   go_wp2_with fail
   exact ⟨rfl, HH.out⟩
  ·have gf' : u.1.f = false := by simpa using gf
   rw [gf'] at q0
   by_cases gx : 24 < u.1.x
   ·have fx : decide ((24 : Int) < u.1.x) = true := decide_eq_true gx
    have HG := Hd (HBad.out (Or.inr gx))
    clear HBad
    go_wp2_with fail
    refine HRf.out.mono ?_
    rintro e w3 h3
    have HH := Hd (HG.out e w3 h3)
    obtain ⟨hbr, hb⟩ := h3
    unfold Broken at hbr
    subst hbr
    clear hb
    go_wp2_with fail
    exact ⟨rfl, HH.out⟩
   ·have fx : decide ((24 : Int) < u.1.x) = false := decide_eq_false gx
    have HG := Hd (show arityO last (u :: q) = .ok u.1.x u.2 q by rw [HP.out, if_neg (by rintro (h | h); exact gf h; exact gx h)])
    have hw : IntKind.i64.wrap u.1.x = u.1.x := by rw [IntKind.wrap_i64]; omega
    clear HBad
    go_wp2_with fail
    refine HT.out.mono ?_
    rintro e w3 ⟨rfl, hR3, hg3⟩
    have q1 := hg3.cell q1 (by simp; omega)
    have H4 := Hd (Ai hR3 hg3)
    clear hR3 hg3
    go_wp2_with fail
    refine bodyPost_ret (v := .int .i64 u.1.x) (by simp [results, Tryz.results94, go_sem]) rfl ?_
    rw [HG.out]
    exact ⟨rfl, H4.out.1, Gt (grown_of H3.out.1) H4.out.2⟩
 ·rw [decide_eq_false g]
  have hp : arityO last rest = .bad (refE 3 last rest).1 (refE 3 last rest).2 := by unfold arityO; rw [if_neg g, refuseO_eq]
  have HP := Hd hp
  have HRf := Hd (refuse_any b me ma last rest d 3 w1 H1.out.2)
  clear g hp
  go_wp2_with fail
  refine HRf.out.mono ?_
  rintro e w3 ⟨hbr, hb⟩
  have H3 := Hd (Ai hbr (onB' H1.out.1 hb))
  unfold Broken at hbr
  subst hbr
  clear hb
  go_wp2_with fail
  refine ⟨rfl, ?_⟩
  rw [HP.out]
  exact ⟨rfl, grown_of H3.out.2⟩
def declV : List (Nm × Int) → List Value
 | [] => []
 | (n, x) :: ds => .string (tx n) :: .int .i64 x :: declV ds
theorem declV_snoc (ds : List (Nm × Int)) (x : Nm × Int) : declV (ds ++ [x]) = declV ds ++ [.string (tx x.1), .int .i64 x.2] := by
 induction ds with
 | nil => rfl
 | cons y ds ih => simp [declV, ih]
theorem declV_len (ds : List (Nm × Int)) : (declV ds).length = ds.length * 2 := by
 induction ds with
 | nil => rfl
 | cons y ds ih => simp [declV, ih]; omega
theorem declV_app (ds es : List (Nm × Int)) : declV (ds ++ es) = declV ds ++ declV es := by
 induction ds with
 | nil => rfl
 | cons y ds ih => simp [declV, ih]
theorem declV_one (ds : List (Nm × Int)) : ∀ u ∈ declV ds, u.oneCell' = true := by
 induction ds with
 | nil => intro u hu; cases hu
 | cons y ds ih =>
  intro u hu
  simp only [declV, List.mem_cons] at hu
  rcases hu with rfl | rfl | hu
  ·rfl
  ·rfl
  ·exact ih u hu
def DeclsV (lo : Nat) (ds : List (Nm × Int)) (e : Ending) (w : World) : Prop := ∃ v, e = .returned v ∧ w.ownsRow lo 67 2 v ds.length (declV ds)
theorem Tryz.info_decl : (Tryz.prog.info? 67).map (fun i => (i.zero, i.size, i.bytes)) = some (some (.agg #[.string ⟨#[]⟩, .int .i64 0]), 2, 24) := by kernel_rfl
theorem decls_len : ∀ (n : Nat) (acc : List (Nm × Int)) (last : Int) (rest : List Tok) (xs : List (Nm × Int)) (l : Int) (r : List Tok), declsO n acc last rest = .ok xs l r → xs.length + r.length ≤ acc.length + rest.length
 | 0, acc, last, rest, xs, l, r, h => by cases h; exact Nat.le_refl _
 | n + 1, acc, last, rest, xs, l, r, h => by
  by_cases g : shapeL rest = sCon
  ·obtain ⟨y, q, rfl⟩ := take_of g (by decide)
   rw [declsO_succ n acc last y q g] at h
   cases ho : arityO y.2 q with
   | bad e ln => rw [ho] at h; cases h
   | ok x l2 r2 =>
    rw [ho] at h
    have h1 := decls_len n _ _ _ _ _ _ h
    have h2 := arity_strict ho
    simp only [List.length_append, List.length_cons, List.length_nil] at h1 ⊢
    omega
  ·unfold declsO at h
   rw [if_neg g] at h
   cases h
   exact Nat.le_refl _
theorem wantO_suf {s : Sh} {last : Int} {rest : List Tok} {t : Tok} {l : Int} {r : List Tok} (h : wantO s last rest = .ok t l r) (hs : s.1 ≠ 0) : ∀ y, y ∈ r → y ∈ rest := by
 rw [wantO_less hs h]
 exact fun y hy => List.mem_cons_of_mem _ hy
theorem arity_suf {last l : Int} {rest r : List Tok} {x : Int} (h : arityO last rest = .ok x l r) : ∀ y, y ∈ r → y ∈ rest := by
 unfold arityO at h
 split at h
 ·rename_i g
  obtain ⟨u, q, rfl⟩ := take_of g (by decide)
  simp only [takeO, Out.bind] at h
  split at h
  ·simp [refuseO] at h
  ·cases h; exact fun y hy => List.mem_cons_of_mem _ hy
 ·rw [refuseO_eq] at h; cases h
theorem decls_any (b me ma : Nat) (last : Int) (rest : List Tok) (d : Nat) (hX : ∀ y, y ∈ rest → 0 ≤ y.1.x) (hL : rest.length ≤ 4096) (w : World) (hE : Env8 w b) (hR : Rdr w b me ma last rest d) : Calls Tryz.prog 60 #[.pointer (some ⟨b, 0, none⟩)] w (OutSaid b me ma d (DeclsV w.heap.size) (declsO (rest.length + 1) [] last rest) w) := by
 have hbw : b < w.heap.size := Bl hR.c1
 have HE := Hd (Ai hE (Ai hR hX))
 obtain ⟨i0, hi0, hz0, hzs, hzb⟩ := info_parts Tryz.info_decl
 clear hE hR hX
 go_enter Tryz.func60, Tryz.ntmps60
 go_wp2_with fail
 go_loopw [3] (fun s3 wr => ∃ (l : Int) (r : List Tok) (acc : List (Nm × Int)) (vv : Value) (fu : Nat), vv = s3 ∧ Rdr wr b me ma l r d ∧ w.grownBy wr (some b) ∧ r.length < fu ∧ declsO fu acc l r = declsO (rest.length + 1) [] last rest ∧ acc.length + r.length ≤ rest.length ∧ wr.ownsRow w.heap.size 67 2 vv acc.length (declV acc) ∧ ∀ y, y ∈ r → 0 ≤ y.1.x) (fun s3 _ => rest.length - lenOf s3)
 case atStart => exact ⟨last, rest, [], _, _, rfl, HE.out.2.1, grown_of Br, Nat.lt_succ_self _, rfl, by simp, World.ownsRow_nil _ _ _ _, HE.out.2.2⟩
 case round =>
  obtain ⟨l, r, acc, vv, fu, rfl, hR, hg, hfu, hN, hn, hown, hx⟩ := hrel
  obtain ⟨aa, cc, rfl, hlow⟩ := own_shape hown
  have c0 := (HE.out.1.later hg).con.1.1
  have c1 := (HE.out.1.later hg).con.1.2
  have HA := Hd (isAhead_any b me ma l r d sCon wr hR)
  have HQ := Hd (Ai hR (Ai hg (Ai hN (Ai hown (Ai hlow hx)))))
  obtain ⟨fu', rfl⟩ : ∃ q, fu = q + 1 := ⟨fu - 1, by omega⟩
  clear hR hg hN hown hlow hx
  go_wp2_with fail
  refine HA.out.mono ?_
  rintro e w2 ⟨rfl, hb⟩
  have H2 := Hd (Ai (HQ.out.1.later hb) (Ai (Gt HQ.out.2.1 (grown_of hb)) (own_below HQ.out.2.2.2.1 hb)))
  have hs2 : wr.heap.size ≤ w2.heap.size := hb.size
  clear hb HA c0 c1
  by_cases g : shapeL r = sCon
  ·rw [decide_eq_true g]
   obtain ⟨y, r, rfl⟩ := take_of g (by decide)
   simp only [List.length_cons] at hfu hn
   have hN2 := HQ.out.2.2.1
   rw [declsO_succ fu' acc l y r g] at hN2
   have HN := Hd hN2
   have HT := Hd (take_any b me ma l y r d w2 H2.out.1)
   have hf1 := fun W => tok_field1 y.1.k (tx y.1.t) y.1.f y.1.x y.2 W
   clear g hN2
   go_wp2_with fail
   refine HT.out.mono ?_
   rintro e w3 ⟨rfl, hR3, hg3⟩
   have hy := (Below.refl w3.heap.size w3).alloc Nr (.cells #[.string (tx y.1.t), .int .i64 0] 67)
   have HO3 := Hd (own_below (own_kept H2.out.2.2 hg3 (fun e => by have := HQ.out.2.2.2.2.1 b e; omega)) hy)
   have hs3 : w2.heap.size ≤ w3.heap.size := hg3.size
   have hw2 : w.heap.size ≤ w2.heap.size := H2.out.2.1.size
   have H3 := Hd (Ai (hR3.later hy) (Ai (Gt (Gt H2.out.2.1 hg3) (grown_of hy)) (BoxW.alloc w3 #[.string (tx y.1.t), .int .i64 0] 67)))
   have hsz : w3.heap.size + 1 ≤ (w3.alloc (.cells #[.string (tx y.1.t), .int .i64 0] 67)).heap.size := by simp
   clear hR3 hg3 HT hy
   go_upto_region 4 with fail
   generalize (w3.alloc (.cells #[.string (tx y.1.t), .int .i64 0] 67)) = W4 at *
   have HAr := Hd (arity_any b me ma y.2 r d (fun z hz => HQ.out.2.2.2.2.2 z (List.mem_cons_of_mem _ hz)) W4 (HE.out.1.later H3.out.2.1) H3.out.1)
   clear hf1
   go_wp2_with fail
   refine HAr.out.mono ?_
   rintro e w5 h5
   cases ho : arityO y.2 r with
   | bad er ln =>
    rw [ho] at h5
    obtain ⟨hbr, hg5⟩ := h5
    have hp := HN.out
    rw [ho, bind_bad] at hp
    have HB := Hd (Ai hp.symm (Gt H3.out.2.1 hg5))
    unfold Broken at hbr
    subst hbr
    clear hg5 ho hp HAr
    go_wp2_with fail
    refine ⟨rfl, ?_⟩
    rw [HB.out.1]
    exact ⟨rfl, HB.out.2⟩
   | ok x l2 r2 =>
    rw [ho] at h5
    obtain ⟨rfl, hR5, hg5⟩ := h5
    have hp := HN.out
    rw [ho, bind_ok] at hp
    have hst := arity_strict ho
    have hsf := arity_suf ho
    have hBq := H3.out.2.2.grown hg5 (by omega)
    have hs5 : W4.heap.size ≤ w5.heap.size := hg5.size
    have hOw5 := own_kept HO3.out hg5 (fun e => by have := HQ.out.2.2.2.2.1 b e; omega)
    have q0 := hBq.1 0 _ rfl
    have q1 := hBq.1 1 _ rfl
    have z1 := hBq.2 1
    have hltO : ∀ g, (Value.slice aa acc.length cc).ownBlock = some g → g < wr.heap.size := fun g hg => (HQ.out.2.2.2.1.lt g hg).2
    have HLt := Hd hltO
    have H5 := Hd (Ai hR5 (Ai (Gt H3.out.2.1 hg5) (Ai hp (Ai hOw5 (Ai hBq hsf)))))
    clear hR5 hg5 hp hOw5 hBq ho HAr HN HO3 hltO hsf
    go_upto_region 5 with fail
    have hBq := H5.out.2.2.2.2.1.set 1 (show 1 < 2 by decide) (.int .i64 x)
    have hgW : w.grownBy (w5.setCell ⟨w3.heap.size, 1, none⟩ (.int .i64 x)) (some b) := grown_new H5.out.2.1 (by omega) _
    have hR6 := H5.out.1.over (p := w3.heap.size) (i := 1) (by omega) (.int .i64 x)
    have hOw6 : (w5.setCell ⟨w3.heap.size, 1, none⟩ (.int .i64 x)).ownsRow w.heap.size 67 2 (.slice aa acc.length cc) acc.length (declV acc) := own_kept H5.out.2.2.2.1 (set_grown _ _ _ _) (fun e => by have := HLt.out _ e; omega)
    have hs6 : w5.heap.size ≤ (w5.setCell ⟨w3.heap.size, 1, none⟩ (.int .i64 x)).heap.size := by simp
    clear q0 q1 z1
    generalize (w5.setCell ⟨w3.heap.size, 1, none⟩ (.int .i64 x)) = W6 at *
    have q0 := hBq.1 0 _ rfl
    have q1 := hBq.1 1 _ rfl
    have H6 := Hd (Ai hR6 (Ai hgW hOw6))
    have one2 : ∀ u ∈ [Value.string (tx y.1.t), .int .i64 x], u.oneCell' = true := by intro u hu; simp at hu; rcases hu with rfl | rfl <;> rfl
    have m9 : acc.length + 1 ≤ maxLen := by unfold maxLen; omega
    have m8 : (acc.length + 1) * 24 ≤ 140737488355328 := by omega
    clear hBq hgW hR6 hOw6
    go_wp2_with (at_builtin; refine wpList_append_lies _ rfl _ _ 23 rfl w.heap.size 67 i0 (.agg #[.string ⟨#[]⟩, .int .i64 0]) 2 24 Tryz.underlying23 hi0 hz0 hzs hzb rfl (by decide) (.slice aa acc.length cc) acc.length (declV acc) rfl (H6.out.2.2.alloc _) ⟨W6.heap.size, 0, none⟩ 1 1 [.string (tx y.1.t), .int .i64 x] rfl rfl (World.news_of_block (heap_alloc_new _ _)) one2 (by decide) m9 m8 (by simp; omega) _ rfl ?_; intro g9 cap9 w9 o1 o2 o3 o4)
    have hxx := (Below.refl W6.heap.size W6).alloc Nr (.cells #[.string (tx y.1.t), .int .i64 x] 67)
    obtain ⟨q, hq, hg9⟩ := grown_some (b := b) o2 (fun g e => by have := HQ.out.2.2.2.2.1 g e; omega)
    refine ⟨⟨l2, r2, acc ++ [(y.1.t, x)], _, fu', rfl, (H6.out.1.later hxx).past hg9 hq, grown_past (Gt H6.out.2.1 (grown_of hxx)) o2 HQ.out.2.2.2.2.1, by omega, H5.out.2.2.1, by simp; omega, by rw [declV_snoc]; simpa using o1, fun z hz => HQ.out.2.2.2.2.2 z (List.mem_cons_of_mem _ (H5.out.2.2.2.2.2 z hz))⟩, by simp [lenOf]; omega⟩
  ·rw [decide_eq_false g]
   have hN : declsO (fu' + 1) acc l r = .ok acc l r := by
    conv => lhs; unfold declsO
    exact if_neg g
   have hN2 := HQ.out.2.2.1
   rw [hN] at hN2
   have HN := Hd hN2
   clear g hN hN2
   go_wp2_with fail
   refine bodyPost_ret (v := .slice aa acc.length cc) (by simp [results, Tryz.results60, go_sem]) rfl ?_
   rw [← HN.out]
   exact ⟨⟨_, rfl, H2.out.2.2⟩, H2.out.1, H2.out.2.1⟩
def Onto (w : World) (base : Nat) (e : TypeId) (size : Nat) (v : Value) (n : Nat) (xs : List Value) (ao : Option Addr) (cap : Nat) (w' : World) : Prop :=
 w'.ownsRow base e size (.slice ao n cap) n xs ∧ w.grownBy w' v.ownBlock ∧ ((Value.slice ao n cap).ownBlock = v.ownBlock ∨ (Value.slice ao n cap).ownBlock = some w.heap.size)
theorem run_nil_decl (ty : TypeId) (v : Value) (base n : Nat) (xs : List Value) (c : Nat) (w : World) (h : w.ownsRow base 67 2 v n xs) :
  (Builtin.append_ #[23, 23] ty #[v, .slice none 0 c]).run Tryz.prog w = .ok v w := by
 have hu : Tryz.prog.underlying 23 = some (.slice 67) := Tryz.underlying23
 rcases h.2 with ⟨rfl, rfl⟩ | ⟨g, cap, cur, rfl, _, _, hcap, _⟩
 ·simp [Builtin.append_, run_underlying hu, Tryz.sizeOf67, Builtin.firstCells, Builtin.lenOf, go_sem]
 ·simp [Builtin.append_, run_underlying hu, Tryz.sizeOf67, Builtin.firstCells, Builtin.lenOf, go_sem, hcap]
theorem run_onto_decl (ty : TypeId) (w : World) (base n : Nat) (v : Value) (xs : List Value) (hown : w.ownsRow base 67 2 v n xs) (b2 m : Nat) (ys : List Value) (x : Value) (hx : w.ownsRow b2 67 2 x m ys) (h1 : ∀ u ∈ ys, u.oneCell' = true) (hb : n + m ≤ 100000) (hbase : base ≤ w.heap.size) :
  ∃ ao cap w', (Builtin.append_ #[23, 23] ty #[v, x]).run Tryz.prog w = .ok (.slice ao (n + m) cap) w' ∧ Onto w base 67 2 v (n + m) (xs ++ ys) ao cap w' := by
 obtain ⟨i0, hi, hz0, hz1, hz2⟩ := info_parts Tryz.info_decl
 obtain ⟨hl, ⟨rfl, rfl⟩ | ⟨g, cap, cur, rfl, h2, h3, h4, h5, h6, h7⟩⟩ := id hx
 ·have hy : ys = [] := List.length_eq_zero_iff.1 (by simpa using hl)
  subst hy
  obtain ⟨ao, cap, rfl, hlow⟩ := own_shape hown
  exact ⟨ao, cap, w, run_nil_decl ty _ base n xs 0 w hown, by simpa using hown, ⟨rfl, rfl, rfl, Nat.le_refl _, fun _ _ _ => rfl⟩, Or.inl rfl⟩
 ·obtain ⟨v', w', hr, q2, q3, _, q5⟩ := run_append_own_at (P := Tryz.prog) w base 23 ty 67 i0 (.agg #[.string ⟨#[]⟩, .int .i64 0]) 2 24 Tryz.underlying23 hi hz0 hz1 hz2 rfl (by decide) v n xs hown ⟨g, 0, none⟩ m cap ys hl (own_news hx) h1 (by unfold maxLen; omega) (by omega) hbase
  obtain ⟨ao, c2, rfl, hlow⟩ := own_shape q2
  exact ⟨ao, c2, w', hr, q2, q3, q5⟩
theorem wp_onto_decl {o : Oper} {a : Act} {K : Act → World → Prop} {Q : Exit → Act → World → Prop} (s x : Operand) (ho : o.op = .call { callee := .builtin .append, args := #[s, x], argTypes := #[23, 23] })
  (w : World) (base n : Nat) (v : Value) (xs : List Value) (hs : a.eval s = v) (hown : w.ownsRow base 67 2 v n xs) (b2 m : Nat) (ys : List Value) (xv : Value) (hx : a.eval x = xv) (hsrc : w.ownsRow b2 67 2 xv m ys) (h1 : ∀ u ∈ ys, u.oneCell' = true) (hb : n + m ≤ 100000) (hbase : base ≤ w.heap.size)
  (h : ∀ ao cap w', Onto w base 67 2 v (n + m) (xs ++ ys) ao cap w' → K (a.put o.dst (.slice ao (n + m) cap)) w') : o.wp Tryz.prog a w K Q := by
 obtain ⟨ao, cap, w', hr, h2⟩ := run_onto_decl o.type w base n v xs hown b2 m ys xv hsrc h1 hb hbase
 unfold Oper.wp execOp
 simp only [ho, resolve, invoke, builtin, Sem.run_bind, Sem.run_pure, Result.andThen_ok, List.map_toArray, List.map_cons, List.map_nil, hs, hx, hr]
 exact h ao cap w' h2
theorem step_onto_decl {ops : Array Oper} {o : Oper} {a : Act} {K : Act → World → Prop} {Q : Exit → Act → World → Prop} {E : Prop} (hgd : o.guard = none) (s x : Operand) (ho : o.op = .call { callee := .builtin .append, args := #[s, x], argTypes := #[23, 23] })
  (w : World) (base n : Nat) (v : Value) (xs : List Value) (hs : a.eval s = v) (hown : w.ownsRow base 67 2 v n xs) (b2 m : Nat) (ys : List Value) (xv : Value) (hx : a.eval x = xv) (hsrc : w.ownsRow b2 67 2 xv m ys) (h1 : ∀ u ∈ ys, u.oneCell' = true) (hb : n + m ≤ 100000) (hbase : base ≤ w.heap.size)
  (h : ∀ ao cap w', Onto w base 67 2 v (n + m) (xs ++ ys) ao cap w' → K (a.put o.dst (.slice ao (n + m) cap)) w') :
  if Region.wanted o (yielded ops a.tmps) = true then Oper.wp Tryz.prog o a w K Q else E := by
 have hw : Region.wanted o (yielded ops a.tmps) = true := by simp [Region.wanted, hgd]
 rw [if_pos hw]
 exact wp_onto_decl s x ho w base n v xs hs hown b2 m ys xv hx hsrc h1 hb hbase h
theorem run_nil_bind (ty : TypeId) (v : Value) (base n : Nat) (xs : List Value) (c : Nat) (w : World) (h : w.ownsRow base 51 10 v n xs) :
  (Builtin.append_ #[24, 24] ty #[v, .slice none 0 c]).run Tryz.prog w = .ok v w := by
 have hu : Tryz.prog.underlying 24 = some (.slice 51) := Tryz.underlying24
 rcases h.2 with ⟨rfl, rfl⟩ | ⟨g, cap, cur, rfl, _, _, hcap, _⟩
 ·simp [Builtin.append_, run_underlying hu, Tryz.sizeOf51, Builtin.firstCells, Builtin.lenOf, go_sem]
 ·simp [Builtin.append_, run_underlying hu, Tryz.sizeOf51, Builtin.firstCells, Builtin.lenOf, go_sem, hcap]
theorem run_onto_bind (ty : TypeId) (w : World) (base n : Nat) (v : Value) (xs : List Value) (hown : w.ownsRow base 51 10 v n xs) (b2 m : Nat) (ys : List Value) (x : Value) (hx : w.ownsRow b2 51 10 x m ys) (h1 : ∀ u ∈ ys, u.oneCell' = true) (hb : n + m ≤ 100000) (hbase : base ≤ w.heap.size) :
  ∃ ao cap w', (Builtin.append_ #[24, 24] ty #[v, x]).run Tryz.prog w = .ok (.slice ao (n + m) cap) w' ∧ Onto w base 51 10 v (n + m) (xs ++ ys) ao cap w' := by
 obtain ⟨i0, hi, hz0, hz1, hz2⟩ := info_parts Tryz.info_bind
 obtain ⟨hl, ⟨rfl, rfl⟩ | ⟨g, cap, cur, rfl, h2, h3, h4, h5, h6, h7⟩⟩ := id hx
 ·have hy : ys = [] := List.length_eq_zero_iff.1 (by simpa using hl)
  subst hy
  obtain ⟨ao, cap, rfl, hlow⟩ := own_shape hown
  exact ⟨ao, cap, w, run_nil_bind ty _ base n xs 0 w hown, by simpa using hown, ⟨rfl, rfl, rfl, Nat.le_refl _, fun _ _ _ => rfl⟩, Or.inl rfl⟩
 ·obtain ⟨v', w', hr, q2, q3, _, q5⟩ := run_append_own_at (P := Tryz.prog) w base 24 ty 51 i0 (.agg #[.string ⟨#[]⟩, .slice none 0 0, .int .i64 0, .string ⟨#[]⟩, .bool false, .int .u64 0, .slice none 0 0, .slice none 0 0, .slice none 0 0, .slice none 0 0]) 10 176 Tryz.underlying24 hi hz0 hz1 hz2 rfl (by decide) v n xs hown ⟨g, 0, none⟩ m cap ys hl (own_news hx) h1 (by unfold maxLen; omega) (by omega) hbase
  obtain ⟨ao, c2, rfl, hlow⟩ := own_shape q2
  exact ⟨ao, c2, w', hr, q2, q3, q5⟩
theorem wp_onto_bind {o : Oper} {a : Act} {K : Act → World → Prop} {Q : Exit → Act → World → Prop} (s x : Operand) (ho : o.op = .call { callee := .builtin .append, args := #[s, x], argTypes := #[24, 24] })
  (w : World) (base n : Nat) (v : Value) (xs : List Value) (hs : a.eval s = v) (hown : w.ownsRow base 51 10 v n xs) (b2 m : Nat) (ys : List Value) (xv : Value) (hx : a.eval x = xv) (hsrc : w.ownsRow b2 51 10 xv m ys) (h1 : ∀ u ∈ ys, u.oneCell' = true) (hb : n + m ≤ 100000) (hbase : base ≤ w.heap.size)
  (h : ∀ ao cap w', Onto w base 51 10 v (n + m) (xs ++ ys) ao cap w' → K (a.put o.dst (.slice ao (n + m) cap)) w') : o.wp Tryz.prog a w K Q := by
 obtain ⟨ao, cap, w', hr, h2⟩ := run_onto_bind o.type w base n v xs hown b2 m ys xv hsrc h1 hb hbase
 unfold Oper.wp execOp
 simp only [ho, resolve, invoke, builtin, Sem.run_bind, Sem.run_pure, Result.andThen_ok, List.map_toArray, List.map_cons, List.map_nil, hs, hx, hr]
 exact h ao cap w' h2
theorem step_onto_bind {ops : Array Oper} {o : Oper} {a : Act} {K : Act → World → Prop} {Q : Exit → Act → World → Prop} {E : Prop} (hgd : o.guard = none) (s x : Operand) (ho : o.op = .call { callee := .builtin .append, args := #[s, x], argTypes := #[24, 24] })
  (w : World) (base n : Nat) (v : Value) (xs : List Value) (hs : a.eval s = v) (hown : w.ownsRow base 51 10 v n xs) (b2 m : Nat) (ys : List Value) (xv : Value) (hx : a.eval x = xv) (hsrc : w.ownsRow b2 51 10 xv m ys) (h1 : ∀ u ∈ ys, u.oneCell' = true) (hb : n + m ≤ 100000) (hbase : base ≤ w.heap.size)
  (h : ∀ ao cap w', Onto w base 51 10 v (n + m) (xs ++ ys) ao cap w' → K (a.put o.dst (.slice ao (n + m) cap)) w') :
  if Region.wanted o (yielded ops a.tmps) = true then Oper.wp Tryz.prog o a w K Q else E := by
 have hw : Region.wanted o (yielded ops a.tmps) = true := by simp [Region.wanted, hgd]
 rw [if_pos hw]
 exact wp_onto_bind s x ho w base n v xs hs hown b2 m ys xv hx hsrc h1 hb hbase h
end Go.Proofs.YtbnmmbjajheedaaGreatDoor
