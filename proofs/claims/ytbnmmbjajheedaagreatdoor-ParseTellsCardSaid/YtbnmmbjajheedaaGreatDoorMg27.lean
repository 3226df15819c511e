import Derived.Test.YtbnmmbjajheedaaGreatDoorMg3
import Derived.Test.YtbnmmbjajheedaaGreatDoorMg14
import Derived.Test.YtbnmmbjajheedaaGreatDoorMg26
namespace Go.Proofs.YtbnmmbjajheedaaGreatDoor
set_option maxHeartbeats 64000000
set_option maxRecDepth 100000
open Go.RowKit Go.Lib
def DocV (lo : Nat) (o : Out Md) (e : Ending) (w' : World) : Prop :=
 match o with
 | .ok md _ _ => ∃ vd vb B cs, e = .returned (.tuple #[.agg #[vd, vb], .int .i64 0, .int .i64 0]) ∧ lo ≤ B ∧ w'.ownsRow B 67 2 vd md.1.length (declV md.1) ∧ w'.ownsRow B 51 10 vb md.2.length cs ∧ BndsAt w' (fun g => B ≤ g ∧ some g ≠ vb.ownBlock ∧ some g ≠ vd.ownBlock) md.2 cs
 | .bad er ln => e = .returned (.tuple #[.agg #[.slice none 0 0, .slice none 0 0], .int .i64 er, .int .i64 ln])
theorem tells_shape {lo : Nat} {l : List UInt8} {e : Ending} {w' : World} (h : ParseV lo (lexL l) e w') : DocV lo (modL l) e w' := by
 unfold modL
 cases hR : lexL l with
 | bad k line => rw [hR] at h; exact h
 | good T =>
  rw [hR] at h
  have hs := parse_sim (lexL_tvs hR)
  obtain ⟨vd, vb, he, hv⟩ := h
  show DocV lo (parseO T) e w'
  cases ho : parseO T with
  | ok md a b =>
   rw [ho] at hs
   obtain ⟨hd, -, -⟩ := hs
   rw [hd] at he hv
   rcases hv with ⟨h0, -⟩ | ⟨-, B, hB, h1, cs, h2, h3⟩
   ·exact absurd rfl h0
   ·exact ⟨vd, vb, B, cs, he, hB, h1, h2, h3⟩
  | bad er ln =>
   rw [ho] at hs
   obtain ⟨h0, h1, h2⟩ := hs
   rcases hv with ⟨-, rfl, rfl⟩ | ⟨h3, -⟩
   ·rw [h1, h2, if_neg h0] at he
    exact he
   ·exact absurd (h1.symm.trans h3) h0
theorem tells_walk (s : ByteArray) (w : World) (hS : SG w) (hE : EE w) (hV : Shs w) :
  Calls Tryz.prog 3 #[.string s] w fun e w' => e = .returned (.bool true) ∧ Below w.heap.size w w' := by
 have HSE := Hd (Ai hS (Ai hE hV))
 clear hS hE hV
 go_enter Tryz.func3, Tryz.ntmps3
 go_wp2_with fail
 refine (pawake_any w HSE.out.1 HSE.out.2.1 HSE.out.2.2).mono ?_
 rintro e w1 ⟨rfl, hb⟩
 have H1 := Hd (Ai hb (Ai (HSE.out.1.below hb) (Ai (HSE.out.2.1.below hb) (HSE.out.2.2.below hb))))
 clear hb HSE
 by_cases g3 : 5000 < s.size
 ·have f3 : decide ((5000 : Int) < (s.size : Int)) = true := decide_eq_true (by omega)
  go_wp2_with fail
  go_ret
  exact ⟨rfl, H1.out.1⟩
 have f3 : decide ((5000 : Int) < (s.size : Int)) = false := decide_eq_false (by omega)
 have HP1 := Hd (parsed_any s (by omega) w1 H1.out.2.1 H1.out.2.2.1 H1.out.2.2.2)
 go_wp2_with fail
 clear f3
 refine HP1.out.mono ?_
 rintro e w3 ⟨hv1, hb3⟩
 have H3 := Hd (onB' H1.out.1 hb3)
 have HP2 := Hd (fun (W' : World) => dparse_any s (by omega) W')
 have HV1 := Hd hv1
 clear hb3 hv1 HP1
 cases e1 : modL s.data.toList with
 | ok md l1 r1 =>
  have hv1 := HV1.out
  rw [e1] at hv1
  obtain ⟨vc, vb, xb, rfl, hc, hbb, ht⟩ := hv1
  have HO1 := Hd (Ai hc (Ai hbb ht))
  clear hc hbb ht HV1
  obtain ⟨a3, c3, rfl, -⟩ := own_shape HO1.out.1
  obtain ⟨a4, c4, rfl, -⟩ := own_shape HO1.out.2.1
  have hx := (Below.refl w3.heap.size w3).alloc Nr (.cells #[.slice a3 md.1.length c3, .slice a4 md.2.length c4] 26)
  have hB1 := BoxW.alloc w3 #[.slice a3 md.1.length c3, .slice a4 md.2.length c4] 26
  have HX1 := Hd (Ai hx hB1)
  clear hx hB1
  go_wp2_with fail
  refine (HP2.out _).mono ?_
  rintro e w4 ⟨hb4, hv2⟩
  have hv2 := tells_shape hv2
  rw [e1] at hv2
  obtain ⟨vc2, vb2, B2, xb2, rfl, hB2, hc2, hbb2, ht2⟩ := hv2
  obtain ⟨a5, c5, rfl, -⟩ := own_shape hc2
  obtain ⟨a6, c6, rfl, -⟩ := own_shape hbb2
  have hy := (Below.refl w4.heap.size w4).alloc Nr (.cells #[.slice a5 md.1.length c5, .slice a6 md.2.length c6] 26)
  have hxy := onB' HX1.out.1 (onB' hb4 hy)
  have HS := Hd (same_any md.1 md.2 _ _ _ _ _ _ _ _ _ _ _ (own_below HO1.out.1 hxy) (own_below HO1.out.2.1 hxy) (HO1.out.2.2.move fun g hk lt => ⟨hk, hxy.block g lt⟩) (own_below hc2 hy) (own_below hbb2 hy) (ht2.move fun g hk lt => ⟨hk, hy.block g lt⟩))
  clear hc2 hbb2 ht2
  have p0 := (HX1.out.2.below (onB' hb4 hy)).1 0 _ rfl
  have p1 := (HX1.out.2.below (onB' hb4 hy)).1 1 _ rfl
  have q0 := (BoxW.alloc w4 #[.slice a5 md.1.length c5, .slice a6 md.2.length c6] 26).1 0 _ rfl
  have q1 := (BoxW.alloc w4 #[.slice a5 md.1.length c5, .slice a6 md.2.length c6] 26).1 1 _ rfl
  have HXY := Hd hxy
  clear hy hb4 hxy HP2
  go_upto_region 10 with fail
  generalize (w4.alloc (.cells #[.slice a5 md.1.length c5, .slice a6 md.2.length c6] 26)) = W5 at *
  go_wp2_with fail
  refine HS.out.mono ?_
  rintro e w6 ⟨rfl, hb6⟩
  have HE := Hd (onB' H3.out (onB' HXY.out hb6))
  clear hb6
  go_wp2_with fail
  go_ret
  exact ⟨rfl, HE.out⟩
 | bad er ln =>
  have hv1 := HV1.out
  rw [e1] at hv1
  obtain ⟨hne, rfl⟩ := hv1
  clear HV1
  have hx := (Below.refl w3.heap.size w3).alloc Nr (.cells #[.slice none 0 0, .slice none 0 0] 26)
  have hB1 := BoxW.alloc w3 #[.slice none 0 0, .slice none 0 0] 26
  have HX1 := Hd (Ai hx hB1)
  clear hx hB1
  go_wp2_with fail
  refine (HP2.out _).mono ?_
  rintro e w4 ⟨hb4, hv2⟩
  have hv2 := tells_shape hv2
  rw [e1] at hv2
  subst hv2
  have hy := (Below.refl w4.heap.size w4).alloc Nr (.cells #[.slice none 0 0, .slice none 0 0] 26)
  have hxy := onB' HX1.out.1 (onB' hb4 hy)
  have HS := Hd (same_any [] [] (w4.alloc (.cells #[.slice none 0 0, .slice none 0 0] 26)) 0 0 (.slice none 0 0) (.slice none 0 0) (.slice none 0 0) (.slice none 0 0) [] [] (fun _ => True) (fun _ => True) (World.ownsRow_nil _ _ _ _) (World.ownsRow_nil _ _ _ _) .nil (World.ownsRow_nil _ _ _ _) (World.ownsRow_nil _ _ _ _) .nil)
  have p0 := (HX1.out.2.below (onB' hb4 hy)).1 0 _ rfl
  have p1 := (HX1.out.2.below (onB' hb4 hy)).1 1 _ rfl
  have q0 := (BoxW.alloc w4 #[.slice none 0 0, .slice none 0 0] 26).1 0 _ rfl
  have q1 := (BoxW.alloc w4 #[.slice none 0 0, .slice none 0 0] 26).1 1 _ rfl
  have HXY := Hd hxy
  clear hy hb4 hxy HP2
  go_upto_region 10 with fail
  generalize (w4.alloc (.cells #[.slice none 0 0, .slice none 0 0] 26)) = W5 at *
  go_wp2_with fail
  refine HS.out.mono ?_
  rintro e w6 ⟨rfl, hb6⟩
  have HE := Hd (onB' H3.out (onB' HXY.out hb6))
  clear hb6
  go_wp2_with fail
  go_ret
  exact ⟨rfl, HE.out⟩
end Go.Proofs.YtbnmmbjajheedaaGreatDoor
