import Derived.Deep.RegionHeld3
import Derived.Deep.RegionHeld
import Derived.Test.YtbnmmbjajheedaaGreatDoorMg10
namespace Go.Proofs.YtbnmmbjajheedaaGreatDoor
set_option maxHeartbeats 64000000
set_option maxRecDepth 100000
open Go.RowKit Go.Lib
theorem two_boxes (wr : World) (A B : Array Value) (T : TypeId) : Below wr.heap.size wr ((wr.alloc (.cells A T)).alloc (.cells B T)).drew ∧ BoxW ((wr.alloc (.cells A T)).alloc (.cells B T)).drew wr.heap.size A.toList ∧ BoxW ((wr.alloc (.cells A T)).alloc (.cells B T)).drew (wr.heap.size + 1) B.toList := by
 have h1 : Below wr.heap.size wr (wr.alloc (.cells A T)) := (Below.refl _ wr).alloc Nr _
 have h2 : Below (wr.alloc (.cells A T)).heap.size (wr.alloc (.cells A T)) ((wr.alloc (.cells A T)).alloc (.cells B T)) := Br.alloc Nr _
 have b1 := BoxW.alloc wr A T
 have b2 := BoxW.alloc (wr.alloc (.cells A T)) B T
 have hs : (wr.alloc (.cells A T)).heap.size = wr.heap.size + 1 := by simp
 rw [hs] at b2
 refine ⟨(onB' h1 h2).drew, ⟨fun j v hv => later' (h2.drew) (b1.1 j v hv), fun j => ?_⟩, ⟨b2.1, b2.2⟩⟩
 exact (World.frozen?_of_block (h2.drew.block _ (by simp))).trans (b1.2 j)
theorem num_same (f : Bool) (u : Int) (w : World) : (binOp .neq 39 (.agg #[.bool f, .int .u64 u]) (.agg #[.bool f, .int .u64 u])).run Tryz.prog w = .ok (.bool false) w := by
 have he : (Op.equal 39 (.agg #[.bool f, .int .u64 u]) (.agg #[.bool f, .int .u64 u])).run Tryz.prog w = .ok true w := num_refl 9998 f u w
 generalize hq : Op.equal = E at he
 simp [binOp, hq, he]
theorem sx_step (n : Nat) (hX : SX n) : SX (n + 1) := by
 intro x K1 K2 w k1 k2 n1 n2 f1 f2 u1 u2 vp1 vk1 vb1 va1 vp2 vk2 vb2 va2 hn h1 h2
 cases h1 with
 | mk k nm f u ps ks bs al _ _ _ _ xk xb xa hp1 hk1 hb1 ha1 tk1 tb1 ta1 =>
 cases h2 with
 | mk _ _ _ _ _ _ _ _ _ _ _ _ yk yb ya hp2 hk2 hb2 ha2 tk2 tb2 ta2 =>
 have hsz : (∀ x, x ∈ ks → SizeOf.sizeOf x ≤ n) ∧ (∀ x, x ∈ bs → SizeOf.sizeOf x.2.2 ≤ n) ∧ (∀ x, x ∈ al → SizeOf.sizeOf x.2.2.2.2.2 ≤ n) := by
  simp only [Ex.mk.sizeOf_spec] at hn
  refine ⟨fun x hx => ?_, fun x hx => ?_, fun x hx => ?_⟩
  ·have := List.sizeOf_lt_of_mem hx
   omega
  ·have := List.sizeOf_lt_of_mem hx
   obtain ⟨a, b, c⟩ := x
   simp only [Prod.mk.sizeOf_spec] at this ⊢
   omega
  ·have := List.sizeOf_lt_of_mem hx
   obtain ⟨a, b, c, d, e, g⟩ := x
   simp only [Prod.mk.sizeOf_spec] at this ⊢
   omega
 obtain ⟨a1, c1, rfl⟩ := hp1.sl
 obtain ⟨a2, c2, rfl⟩ := hk1.sl
 obtain ⟨a3, c3, rfl⟩ := hb1.sl
 obtain ⟨a4, c4, rfl⟩ := ha1.sl
 obtain ⟨d1, e1, rfl⟩ := hp2.sl
 obtain ⟨d2, e2, rfl⟩ := hk2.sl
 obtain ⟨d3, e3, rfl⟩ := hb2.sl
 obtain ⟨d4, e4, rfl⟩ := ha2.sl
 have hy1 := (Below.refl w.heap.size w).alloc Nr (.cells #[.int .i64 k1, .string (tx nm), .bool f1, .int .u64 u1, .slice a1 ps.length c1, .slice a2 ks.length c2, .slice a3 bs.length c3, .slice a4 al.length c4] 49)
 have hy2 := hy1.alloc (by simp) (.cells #[.int .i64 k1, .string (tx nm), .bool f1, .int .u64 u1, .slice d1 ps.length e1, .slice d2 ks.length e2, .slice d3 bs.length e3, .slice d4 al.length e4] 49)
 have hB1 := (BoxW.alloc w #[.int .i64 k1, .string (tx nm), .bool f1, .int .u64 u1, .slice a1 ps.length c1, .slice a2 ks.length c2, .slice a3 bs.length c3, .slice a4 al.length c4] 49).below (Br.alloc Nr (.cells #[.int .i64 k1, .string (tx nm), .bool f1, .int .u64 u1, .slice d1 ps.length e1, .slice d2 ks.length e2, .slice d3 bs.length e3, .slice d4 al.length e4] 49))
 have hB2 := BoxW.alloc (w.alloc (.cells #[.int .i64 k1, .string (tx nm), .bool f1, .int .u64 u1, .slice a1 ps.length c1, .slice a2 ks.length c2, .slice a3 bs.length c3, .slice a4 al.length c4] 49)) #[.int .i64 k1, .string (tx nm), .bool f1, .int .u64 u1, .slice d1 ps.length e1, .slice d2 ks.length e2, .slice d3 bs.length e3, .slice d4 al.length e4] 49
 rw [show (w.alloc (.cells #[.int .i64 k1, .string (tx nm), .bool f1, .int .u64 u1, .slice a1 ps.length c1, .slice a2 ks.length c2, .slice a3 bs.length c3, .slice a4 al.length c4] 49)).heap.size = w.heap.size + 1 by simp] at hB2
 have HX := Hd (Ai hy2 (Ai hB1 hB2))
 have HP := Hd (Ai hp1 hp2)
 have HK := Hd (Ai hk1 (Ai hk2 (Ai tk1 tk2)))
 have HB := Hd (Ai hb1 (Ai hb2 (Ai tb1 tb2)))
 have HA := Hd (Ai ha1 (Ai ha2 (Ai ta1 ta2)))
 have HN := Hd hsz
 have hmk : ks.length ≤ maxLen := hk1.cap
 have hma : al.length ≤ maxLen := ha1.cap
 unfold maxLen at hmk hma
 clear hy1 hy2 hB1 hB2 hp1 hk1 hb1 ha1 tk1 tb1 ta1 hp2 hk2 hb2 ha2 tk2 tb2 ta2 hn hsz
 go_enter Tryz.func66, Tryz.ntmps66
 have hnum := fun W => num_same f1 u1 W
 go_upto_region 1 with fail
 generalize ((w.alloc (.cells #[.int .i64 k1, .string (tx nm), .bool f1, .int .u64 u1, .slice a1 ps.length c1, .slice a2 ks.length c2, .slice a3 bs.length c3, .slice a4 al.length c4] 49)).alloc (.cells #[.int .i64 k1, .string (tx nm), .bool f1, .int .u64 u1, .slice d1 ps.length e1, .slice d2 ks.length e2, .slice d3 bs.length e3, .slice d4 al.length e4] 49)) = W at *
 have p0 := HX.out.2.1.1 0 _ rfl
 have q0 := HX.out.2.2.1 0 _ rfl
 have p1 := HX.out.2.1.1 1 _ rfl
 have q1 := HX.out.2.2.1 1 _ rfl
 have p2 := HX.out.2.1.1 2 _ rfl
 have q2 := HX.out.2.2.1 2 _ rfl
 have p3 := HX.out.2.1.1 3 _ rfl
 have q3 := HX.out.2.2.1 3 _ rfl
 have p4 := HX.out.2.1.1 4 _ rfl
 have q4 := HX.out.2.2.1 4 _ rfl
 have p5 := HX.out.2.1.1 5 _ rfl
 have q5 := HX.out.2.2.1 5 _ rfl
 have p6 := HX.out.2.1.1 6 _ rfl
 have q6 := HX.out.2.2.1 6 _ rfl
 have p7 := HX.out.2.1.1 7 _ rfl
 have q7 := HX.out.2.2.1 7 _ rfl
 have HT := Hd (texts_row (HP.out.1.below HX.out.1) (HP.out.2.below HX.out.1))
 have hu1 : ((ks.length : Int) != (ks.length : Int)) = false := by simp
 have hu2 : ((al.length : Int) != (al.length : Int)) = false := by simp
 go_wp2_with fail
 refine HT.out.mono ?_
 rintro e w2 ⟨rfl, hb2⟩
 have H2 := Hd (Ai (onB' HX.out.1 hb2) (Ai (HX.out.2.1.below hb2) (HX.out.2.2.below hb2)))
 clear hb2 HT p0 q0 p1 q1 p2 q2 p3 q3 p4 q4 p5 q5 p6 q6 p7 q7
 have p0 := H2.out.2.1.1 0 _ rfl
 have q0 := H2.out.2.2.1 0 _ rfl
 have p1 := H2.out.2.1.1 1 _ rfl
 have q1 := H2.out.2.2.1 1 _ rfl
 have p2 := H2.out.2.1.1 2 _ rfl
 have q2 := H2.out.2.2.1 2 _ rfl
 have p3 := H2.out.2.1.1 3 _ rfl
 have q3 := H2.out.2.2.1 3 _ rfl
 have p4 := H2.out.2.1.1 4 _ rfl
 have q4 := H2.out.2.2.1 4 _ rfl
 have p5 := H2.out.2.1.1 5 _ rfl
 have q5 := H2.out.2.2.1 5 _ rfl
 have p6 := H2.out.2.1.1 6 _ rfl
 have q6 := H2.out.2.2.1 6 _ rfl
 have p7 := H2.out.2.1.1 7 _ rfl
 have q7 := H2.out.2.2.1 7 _ rfl
 have HS := Hd (samebinds_any n hX bs HN.out.2.1 a3 d3 c3 e3 xb yb K1 K2 K1 K2 w2 (HB.out.1.below H2.out.1) (HB.out.2.1.below H2.out.1) (HB.out.2.2.1.move fun g hk lt => ⟨hk, H2.out.1.block g lt⟩) (HB.out.2.2.2.move fun g hk lt => ⟨hk, H2.out.1.block g lt⟩))
 clear HB HP
 go_wp2_with fail
 refine HS.out.mono ?_
 rintro e w3 ⟨rfl, hb3⟩
 have H3 := Hd (Ai (onB' H2.out.1 hb3) (Ai (H2.out.2.1.below hb3) (H2.out.2.2.below hb3)))
 clear hb3 HS H2 p0 q0 p1 q1 p2 q2 p3 q3 p4 q4 p5 q5 p6 q6 p7 q7
 have p0 := H3.out.2.1.1 0 _ rfl
 have q0 := H3.out.2.2.1 0 _ rfl
 have p1 := H3.out.2.1.1 1 _ rfl
 have q1 := H3.out.2.2.1 1 _ rfl
 have p2 := H3.out.2.1.1 2 _ rfl
 have q2 := H3.out.2.2.1 2 _ rfl
 have p3 := H3.out.2.1.1 3 _ rfl
 have q3 := H3.out.2.2.1 3 _ rfl
 have p4 := H3.out.2.1.1 4 _ rfl
 have q4 := H3.out.2.2.1 4 _ rfl
 have p5 := H3.out.2.1.1 5 _ rfl
 have q5 := H3.out.2.2.1 5 _ rfl
 have p6 := H3.out.2.1.1 6 _ rfl
 have q6 := H3.out.2.2.1 6 _ rfl
 have p7 := H3.out.2.1.1 7 _ rfl
 have q7 := H3.out.2.2.1 7 _ rfl
 go_wp2_with fail
 clear hu1 hu2 p0 q0 p1 q1 p2 q2 p3 q3 p4 q4 p5 q5 p6 q6 p7 q7
 go_loopw [5] (fun s5 wr => ∃ j : Nat, j ≤ ks.length ∧ s5 = .int .i64 j ∧ Below w3.heap.size w3 wr) (fun s5 _ => ks.length - (RowKit.intOf s5).toNat)
 case atStart => exact ⟨0, Nat.zero_le _, rfl, Below.refl _ _⟩
 case round =>
  obtain ⟨j, hj, rfl, hbr⟩ := hrel
  have HR := Hd (Ai (onB' H3.out.1 hbr) (Ai (H3.out.2.1.below hbr) (Ai (H3.out.2.2.below hbr) hbr)))
  clear hbr
  have p0 := HR.out.2.1.1 0 _ rfl
  have q0 := HR.out.2.2.1.1 0 _ rfl
  have p1 := HR.out.2.1.1 1 _ rfl
  have q1 := HR.out.2.2.1.1 1 _ rfl
  have p2 := HR.out.2.1.1 2 _ rfl
  have q2 := HR.out.2.2.1.1 2 _ rfl
  have p3 := HR.out.2.1.1 3 _ rfl
  have q3 := HR.out.2.2.1.1 3 _ rfl
  have p4 := HR.out.2.1.1 4 _ rfl
  have q4 := HR.out.2.2.1.1 4 _ rfl
  have p5 := HR.out.2.1.1 5 _ rfl
  have q5 := HR.out.2.2.1.1 5 _ rfl
  have p6 := HR.out.2.1.1 6 _ rfl
  have q6 := HR.out.2.2.1.1 6 _ rfl
  have p7 := HR.out.2.1.1 7 _ rfl
  have q7 := HR.out.2.2.1.1 7 _ rfl
  by_cases gj : j < ks.length
  ·have gj' : (j : Int) < (ks.length : Int) := by omega
   obtain ⟨g1, o1, ea1, kk1, mm1, -, ht1⟩ := HK.out.1.at (by omega)
   obtain ⟨g2, o2, ea2, kk2, mm2, -, ht2⟩ := HK.out.2.1.at (by omega)
   subst ea1
   subst ea2
   obtain ⟨m1, s1, ff1, y1, vp1, vk1, vb1, va1, r1, z0, z1, z2, z3, z4, z5, z6, z7⟩ := HK.out.2.2.1.at j gj
   obtain ⟨m2, s2, ff2, y2, vp2, vk2, vb2, va2, r2, v0, v1, v2, v3, v4, v5, v6, v7⟩ := HK.out.2.2.2.at j gj
   have hsz := HN.out.1 ks[j] (List.getElem_mem gj)
   replace z0 := later' HR.out.1 (ht1 _ _ z0)
   replace v0 := later' HR.out.1 (ht2 _ _ v0)
   rw [← Nat.add_assoc] at z0 v0
   replace z1 := later' HR.out.1 (ht1 _ _ z1)
   replace v1 := later' HR.out.1 (ht2 _ _ v1)
   rw [← Nat.add_assoc] at z1 v1
   replace z2 := later' HR.out.1 (ht1 _ _ z2)
   replace v2 := later' HR.out.1 (ht2 _ _ v2)
   rw [← Nat.add_assoc] at z2 v2
   replace z3 := later' HR.out.1 (ht1 _ _ z3)
   replace v3 := later' HR.out.1 (ht2 _ _ v3)
   rw [← Nat.add_assoc] at z3 v3
   replace z4 := later' HR.out.1 (ht1 _ _ z4)
   replace v4 := later' HR.out.1 (ht2 _ _ v4)
   rw [← Nat.add_assoc] at z4 v4
   replace z5 := later' HR.out.1 (ht1 _ _ z5)
   replace v5 := later' HR.out.1 (ht2 _ _ v5)
   rw [← Nat.add_assoc] at z5 v5
   replace z6 := later' HR.out.1 (ht1 _ _ z6)
   replace v6 := later' HR.out.1 (ht2 _ _ v6)
   rw [← Nat.add_assoc] at z6 v6
   replace z7 := later' HR.out.1 (ht1 _ _ z7)
   replace v7 := later' HR.out.1 (ht2 _ _ v7)
   rw [← Nat.add_assoc] at z7 v7
   rw [Nat.add_zero] at z0 v0
   have HXx := Hd (fun (W' : World) (hb : Below wr.heap.size wr W') => hX ks[j] K1 K2 W' _ _ _ _ _ _ _ _ _ _ _ _ _ _ _ _ hsz ((r1.low HR.out.1).low hb) ((r2.low HR.out.1).low hb))
   clear r1 r2 ht1 ht2 hsz
   generalize ks[j] = tk at *
   have ej : IntKind.i64.wrap ((j : Int) + 1) = (j : Int) + 1 := by rw [IntKind.wrap_i64]; omega
   have b0 : (0 : Int) ≤ (j : Int) := by omega
   go_wp2_with fail
   have kz0 := cell_regrown z0
   have kv0 := cell_regrown v0
   have kz1 := cell_regrown z1
   have kv1 := cell_regrown v1
   have kz2 := cell_regrown z2
   have kv2 := cell_regrown v2
   have kz3 := cell_regrown z3
   have kv3 := cell_regrown v3
   have kz4 := cell_regrown z4
   have kv4 := cell_regrown v4
   have kz5 := cell_regrown z5
   have kv5 := cell_regrown v5
   have kz6 := cell_regrown z6
   have kv6 := cell_regrown v6
   have kz7 := cell_regrown z7
   have kv7 := cell_regrown v7
   have kp5 := cell_regrown p5
   have kq5 := cell_regrown q5
   clear z0 v0 z1 v1 z2 v2 z3 v3 z4 v4 z5 v5 z6 v6 z7 v7 p0 q0 p1 q1 p2 q2 p3 q3 p4 q4 p5 q5 p6 q6 p7 q7
   refine wp_region_quiet_below (by kernel_rfl) (by kernel_rfl) ?_
   repeat (first | go_big_quiet_skip | (quiet_step (exact Calls.regrown_of (HXx.out _ (below_regrown _ _ _)))))
   refine wpQuiet_nil ?_
   intro _ hw'
   obtain ⟨⟨dq, osq⟩, hw''⟩ := hw'
   subst hw''
   have HE := Hd (onB' HR.out.2.2.2 (below_regrown wr dq osq))
   clear kz0 kv0 kz1 kv1 kz2 kv2 kz3 kv3 kz4 kv4 kz5 kv5 kz6 kv6 kz7 kv7 kp5 kq5
   go_wp2_with fail
   exact ⟨⟨j + 1, by omega, by go_num, HE.out⟩, by simp [RowKit.intOf]; omega⟩
  ·obtain rfl : j = ks.length := by omega
   have H4 := HR
   clear HR H3 gj hj
   go_wp2_with fail
   clear p0 q0 p1 q1 p2 q2 p3 q3 p4 q4 p5 q5 p6 q6 p7 q7
   generalize wr = wA at *
   go_loopw [6] (fun s6 ws => ∃ j : Nat, j ≤ al.length ∧ s6 = .int .i64 j ∧ Below wA.heap.size wA ws) (fun s6 _ => al.length - (RowKit.intOf s6).toNat)
   case atStart => exact ⟨0, Nat.zero_le _, rfl, Below.refl _ _⟩
   case round =>
    obtain ⟨j, hj, rfl, hbr⟩ := hrel
    have HR := Hd (Ai (onB' H4.out.1 hbr) (Ai (H4.out.2.1.below hbr) (Ai (H4.out.2.2.1.below hbr) hbr)))
    clear hbr
    have p0 := HR.out.2.1.1 0 _ rfl
    have q0 := HR.out.2.2.1.1 0 _ rfl
    have p1 := HR.out.2.1.1 1 _ rfl
    have q1 := HR.out.2.2.1.1 1 _ rfl
    have p2 := HR.out.2.1.1 2 _ rfl
    have q2 := HR.out.2.2.1.1 2 _ rfl
    have p3 := HR.out.2.1.1 3 _ rfl
    have q3 := HR.out.2.2.1.1 3 _ rfl
    have p4 := HR.out.2.1.1 4 _ rfl
    have q4 := HR.out.2.2.1.1 4 _ rfl
    have p5 := HR.out.2.1.1 5 _ rfl
    have q5 := HR.out.2.2.1.1 5 _ rfl
    have p6 := HR.out.2.1.1 6 _ rfl
    have q6 := HR.out.2.2.1.1 6 _ rfl
    have p7 := HR.out.2.1.1 7 _ rfl
    have q7 := HR.out.2.2.1.1 7 _ rfl
    by_cases gj : j < al.length
    ·have gj' : (j : Int) < (al.length : Int) := by omega
     obtain ⟨g1, o1, ea1, kk1, mm1, -, ht1⟩ := HA.out.1.at (by omega)
     obtain ⟨g2, o2, ea2, kk2, mm2, -, ht2⟩ := HA.out.2.1.at (by omega)
     subst ea1
     subst ea2
     obtain ⟨vq1, m1, s1, ff1, y1, vp1, vk1, vb1, va1, rr1, r1, z0, z1, z2, z3, z4, z5, z6, z7, z8, z9, z10, z11, z12⟩ := HA.out.2.2.1.at j gj
     obtain ⟨vq2, m2, s2, ff2, y2, vp2, vk2, vb2, va2, rr2, r2, v0, v1, v2, v3, v4, v5, v6, v7, v8, v9, v10, v11, v12⟩ := HA.out.2.2.2.at j gj
     obtain ⟨x1, w1, rfl⟩ := rr1.sl
     obtain ⟨x2, w2', rfl⟩ := rr2.sl
     obtain ⟨⟨ap1, np1, cp1, rfl⟩, ⟨ak1, nk1, ck1, rfl⟩, ⟨ab1, nb1, cb1, rfl⟩, ⟨aa1, na1, ca1, rfl⟩⟩ := r1.slices
     obtain ⟨⟨ap2, np2, cp2, rfl⟩, ⟨ak2, nk2, ck2, rfl⟩, ⟨ab2, nb2, cb2, rfl⟩, ⟨aa2, na2, ca2, rfl⟩⟩ := r2.slices
     have hsz := HN.out.2.2 al[j] (List.getElem_mem gj)
     replace z0 := later' HR.out.1 (ht1 _ _ z0)
     replace v0 := later' HR.out.1 (ht2 _ _ v0)
     rw [← Nat.add_assoc] at z0 v0
     replace z1 := later' HR.out.1 (ht1 _ _ z1)
     replace v1 := later' HR.out.1 (ht2 _ _ v1)
     rw [← Nat.add_assoc] at z1 v1
     replace z2 := later' HR.out.1 (ht1 _ _ z2)
     replace v2 := later' HR.out.1 (ht2 _ _ v2)
     rw [← Nat.add_assoc] at z2 v2
     replace z3 := later' HR.out.1 (ht1 _ _ z3)
     replace v3 := later' HR.out.1 (ht2 _ _ v3)
     rw [← Nat.add_assoc] at z3 v3
     replace z4 := later' HR.out.1 (ht1 _ _ z4)
     replace v4 := later' HR.out.1 (ht2 _ _ v4)
     rw [← Nat.add_assoc] at z4 v4
     replace z5 := later' HR.out.1 (ht1 _ _ z5)
     replace v5 := later' HR.out.1 (ht2 _ _ v5)
     rw [← Nat.add_assoc] at z5 v5
     replace z6 := later' HR.out.1 (ht1 _ _ z6)
     replace v6 := later' HR.out.1 (ht2 _ _ v6)
     rw [← Nat.add_assoc] at z6 v6
     replace z7 := later' HR.out.1 (ht1 _ _ z7)
     replace v7 := later' HR.out.1 (ht2 _ _ v7)
     rw [← Nat.add_assoc] at z7 v7
     replace z8 := later' HR.out.1 (ht1 _ _ z8)
     replace v8 := later' HR.out.1 (ht2 _ _ v8)
     rw [← Nat.add_assoc] at z8 v8
     replace z9 := later' HR.out.1 (ht1 _ _ z9)
     replace v9 := later' HR.out.1 (ht2 _ _ v9)
     rw [← Nat.add_assoc] at z9 v9
     replace z10 := later' HR.out.1 (ht1 _ _ z10)
     replace v10 := later' HR.out.1 (ht2 _ _ v10)
     rw [← Nat.add_assoc] at z10 v10
     replace z11 := later' HR.out.1 (ht1 _ _ z11)
     replace v11 := later' HR.out.1 (ht2 _ _ v11)
     rw [← Nat.add_assoc] at z11 v11
     replace z12 := later' HR.out.1 (ht1 _ _ z12)
     replace v12 := later' HR.out.1 (ht2 _ _ v12)
     rw [← Nat.add_assoc] at z12 v12
     rw [Nat.add_zero] at z0 v0
     have HT := Hd (fun (W' : World) (hb : Below wr.heap.size wr W') => texts_row ((rr1.below HR.out.1).below hb) ((rr2.below HR.out.1).below hb))
     have HXx := Hd (fun (W' : World) (hb : Below wr.heap.size wr W') => hX al[j].2.2.2.2.2 K1 K2 W' _ _ _ _ _ _ _ _ _ _ _ _ _ _ _ _ hsz ((r1.low HR.out.1).low hb) ((r2.low HR.out.1).low hb))
     clear r1 r2 rr1 rr2 ht1 ht2 hsz
     generalize al[j] = tk at *
     obtain ⟨tk1, tk2, tk3, tk4, tk5, tk6⟩ := tk
     simp only at z0 z1 z2 z3 z4 v0 v1 v2 v3 v4
     have ej : IntKind.i64.wrap ((j : Int) + 1) = (j : Int) + 1 := by rw [IntKind.wrap_i64]; omega
     have b0 : (0 : Int) ≤ (j : Int) := by omega
     have hnum2 := fun W => num_same tk3 tk4 W
     go_wp2_with fail
     go_region_held3 (fun w' => w'.cell? ⟨g1, o1 + j * 13, none⟩ = some (.int .i64 tk1) ∧ w'.cell? ⟨g1, o1 + j * 13 + 1, none⟩ = some (.string (tx tk2)) ∧ w'.cell? ⟨g1, o1 + j * 13 + 2, none⟩ = some (.bool tk3) ∧ w'.cell? ⟨g1, o1 + j * 13 + 3, none⟩ = some (.int .u64 tk4) ∧ w'.cell? ⟨g1, o1 + j * 13 + 4, none⟩ = some (.slice x1 tk5.length w1) ∧ w'.cell? ⟨g1, o1 + j * 13 + 5, none⟩ = some (.int .i64 m1) ∧ w'.cell? ⟨g1, o1 + j * 13 + 6, none⟩ = some (.string s1) ∧ w'.cell? ⟨g1, o1 + j * 13 + 7, none⟩ = some (.bool ff1) ∧ w'.cell? ⟨g1, o1 + j * 13 + 8, none⟩ = some (.int .u64 y1) ∧ w'.cell? ⟨g1, o1 + j * 13 + 9, none⟩ = some (.slice ap1 np1 cp1) ∧ w'.cell? ⟨g1, o1 + j * 13 + 10, none⟩ = some (.slice ak1 nk1 ck1) ∧ w'.cell? ⟨g1, o1 + j * 13 + 11, none⟩ = some (.slice ab1 nb1 cb1) ∧ w'.cell? ⟨g1, o1 + j * 13 + 12, none⟩ = some (.slice aa1 na1 ca1) ∧ w'.cell? ⟨g2, o2 + j * 13, none⟩ = some (.int .i64 tk1) ∧ w'.cell? ⟨g2, o2 + j * 13 + 1, none⟩ = some (.string (tx tk2)) ∧ w'.cell? ⟨g2, o2 + j * 13 + 2, none⟩ = some (.bool tk3) ∧ w'.cell? ⟨g2, o2 + j * 13 + 3, none⟩ = some (.int .u64 tk4) ∧ w'.cell? ⟨g2, o2 + j * 13 + 4, none⟩ = some (.slice x2 tk5.length w2') ∧ w'.cell? ⟨g2, o2 + j * 13 + 5, none⟩ = some (.int .i64 m2) ∧ w'.cell? ⟨g2, o2 + j * 13 + 6, none⟩ = some (.string s2) ∧ w'.cell? ⟨g2, o2 + j * 13 + 7, none⟩ = some (.bool ff2) ∧ w'.cell? ⟨g2, o2 + j * 13 + 8, none⟩ = some (.int .u64 y2) ∧ w'.cell? ⟨g2, o2 + j * 13 + 9, none⟩ = some (.slice ap2 np2 cp2) ∧ w'.cell? ⟨g2, o2 + j * 13 + 10, none⟩ = some (.slice ak2 nk2 ck2) ∧ w'.cell? ⟨g2, o2 + j * 13 + 11, none⟩ = some (.slice ab2 nb2 cb2) ∧ w'.cell? ⟨g2, o2 + j * 13 + 12, none⟩ = some (.slice aa2 na2 ca2) ∧ w'.cell? ⟨w.heap.size, 7, none⟩ = some (.slice (some ⟨g1, o1, none⟩) al.length c4) ∧ w'.cell? ⟨w.heap.size + 1, 7, none⟩ = some (.slice (some ⟨g2, o2, none⟩) al.length e4)) (first | exact ⟨z0, z1, z2, z3, z4, z5, z6, z7, z8, z9, z10, z11, z12, v0, v1, v2, v3, v4, v5, v6, v7, v8, v9, v10, v11, v12, p7, q7⟩ | go_keep) (fail)
     ·rename_i hHeld
      clear hHeld
      have HD := Hd (two_boxes wr #[.int .i64 tk1, .string (tx tk2), .bool tk3, .int .u64 tk4, .slice x1 tk5.length w1, .int .i64 m1, .string s1, .bool ff1, .int .u64 y1, .slice ap1 np1 cp1, .slice ak1 nk1 ck1, .slice ab1 nb1 cb1, .slice aa1 na1 ca1] #[.int .i64 tk1, .string (tx tk2), .bool tk3, .int .u64 tk4, .slice x2 tk5.length w2', .int .i64 m2, .string s2, .bool ff2, .int .u64 y2, .slice ap2 np2 cp2, .slice ak2 nk2 ck2, .slice ab2 nb2 cb2, .slice aa2 na2 ca2] 87)
      generalize ((wr.alloc (.cells #[.int .i64 tk1, .string (tx tk2), .bool tk3, .int .u64 tk4, .slice x1 tk5.length w1, .int .i64 m1, .string s1, .bool ff1, .int .u64 y1, .slice ap1 np1 cp1, .slice ak1 nk1 ck1, .slice ab1 nb1 cb1, .slice aa1 na1 ca1] 87)).alloc (.cells #[.int .i64 tk1, .string (tx tk2), .bool tk3, .int .u64 tk4, .slice x2 tk5.length w2', .int .i64 m2, .string s2, .bool ff2, .int .u64 y2, .slice ap2 np2 cp2, .slice ak2 nk2 ck2, .slice ab2 nb2 cb2, .slice aa2 na2 ca2] 87)).drew = WD at *
      have hbw := HD.out.1
      have ga0 := HD.out.2.1.1 0 _ rfl
      have gb0 := HD.out.2.2.1 0 _ rfl
      have ga1 := HD.out.2.1.1 1 _ rfl
      have gb1 := HD.out.2.2.1 1 _ rfl
      have ga2 := HD.out.2.1.1 2 _ rfl
      have gb2 := HD.out.2.2.1 2 _ rfl
      have ga3 := HD.out.2.1.1 3 _ rfl
      have gb3 := HD.out.2.2.1 3 _ rfl
      have ga4 := HD.out.2.1.1 4 _ rfl
      have gb4 := HD.out.2.2.1 4 _ rfl
      have ga5 := HD.out.2.1.1 5 _ rfl
      have gb5 := HD.out.2.2.1 5 _ rfl
      have ga6 := HD.out.2.1.1 6 _ rfl
      have gb6 := HD.out.2.2.1 6 _ rfl
      have ga7 := HD.out.2.1.1 7 _ rfl
      have gb7 := HD.out.2.2.1 7 _ rfl
      have ga8 := HD.out.2.1.1 8 _ rfl
      have gb8 := HD.out.2.2.1 8 _ rfl
      have ga9 := HD.out.2.1.1 9 _ rfl
      have gb9 := HD.out.2.2.1 9 _ rfl
      have ga10 := HD.out.2.1.1 10 _ rfl
      have gb10 := HD.out.2.2.1 10 _ rfl
      have ga11 := HD.out.2.1.1 11 _ rfl
      have gb11 := HD.out.2.2.1 11 _ rfl
      have ga12 := HD.out.2.1.1 12 _ rfl
      have gb12 := HD.out.2.2.1 12 _ rfl
      clear z0 v0 z1 v1 z2 v2 z3 v3 z4 v4 z5 v5 z6 v6 z7 v7 z8 v8 z9 v9 z10 v10 z11 v11 z12 v12 p0 q0 p1 q1 p2 q2 p3 q3 p4 q4 p5 q5 p6 q6
      replace p7 := later' hbw p7
      replace q7 := later' hbw q7
      go_wp2_with fail
      refine (HT.out _ hbw).mono ?_
      rintro e w5 ⟨rfl, hb5⟩
      have H5 := Hd (Ai (onB' hbw hb5) (Ai (HD.out.2.1.below hb5) (HD.out.2.2.below hb5)))
      clear HT hb5 p7 q7 ga0 gb0 ga1 gb1 ga2 gb2 ga3 gb3 ga4 gb4 ga5 gb5 ga6 gb6 ga7 gb7 ga8 gb8 ga9 gb9 ga10 gb10 ga11 gb11 ga12 gb12
      have ga5 := H5.out.2.1.1 5 _ rfl
      have gb5 := H5.out.2.2.1 5 _ rfl
      have ga6 := H5.out.2.1.1 6 _ rfl
      have gb6 := H5.out.2.2.1 6 _ rfl
      have ga7 := H5.out.2.1.1 7 _ rfl
      have gb7 := H5.out.2.2.1 7 _ rfl
      have ga8 := H5.out.2.1.1 8 _ rfl
      have gb8 := H5.out.2.2.1 8 _ rfl
      have ga9 := H5.out.2.1.1 9 _ rfl
      have gb9 := H5.out.2.2.1 9 _ rfl
      have ga10 := H5.out.2.1.1 10 _ rfl
      have gb10 := H5.out.2.2.1 10 _ rfl
      have ga11 := H5.out.2.1.1 11 _ rfl
      have gb11 := H5.out.2.2.1 11 _ rfl
      have ga12 := H5.out.2.1.1 12 _ rfl
      have gb12 := H5.out.2.2.1 12 _ rfl
      go_wp2_with fail
      refine (HXx.out _ H5.out.1).mono ?_
      rintro e w6 ⟨rfl, hb6⟩
      have HE := Hd (onB' HR.out.2.2.2 (onB' H5.out.1 hb6))
      clear hb6 HXx ga5 gb5 ga6 gb6 ga7 gb7 ga8 gb8 ga9 gb9 ga10 gb10 ga11 gb11 ga12 gb12
      go_wp2_with fail
      exact ⟨⟨j + 1, by omega, by go_num, HE.out⟩, by simp [RowKit.intOf]; omega⟩
     ·rename_i hHeld
      clear hHeld
      have HD := Hd (two_boxes wr #[.int .i64 tk1, .string (tx tk2), .bool tk3, .int .u64 tk4, .slice x2 tk5.length w2', .int .i64 m2, .string s2, .bool ff2, .int .u64 y2, .slice ap2 np2 cp2, .slice ak2 nk2 ck2, .slice ab2 nb2 cb2, .slice aa2 na2 ca2] #[.int .i64 tk1, .string (tx tk2), .bool tk3, .int .u64 tk4, .slice x1 tk5.length w1, .int .i64 m1, .string s1, .bool ff1, .int .u64 y1, .slice ap1 np1 cp1, .slice ak1 nk1 ck1, .slice ab1 nb1 cb1, .slice aa1 na1 ca1] 87)
      generalize ((wr.alloc (.cells #[.int .i64 tk1, .string (tx tk2), .bool tk3, .int .u64 tk4, .slice x2 tk5.length w2', .int .i64 m2, .string s2, .bool ff2, .int .u64 y2, .slice ap2 np2 cp2, .slice ak2 nk2 ck2, .slice ab2 nb2 cb2, .slice aa2 na2 ca2] 87)).alloc (.cells #[.int .i64 tk1, .string (tx tk2), .bool tk3, .int .u64 tk4, .slice x1 tk5.length w1, .int .i64 m1, .string s1, .bool ff1, .int .u64 y1, .slice ap1 np1 cp1, .slice ak1 nk1 ck1, .slice ab1 nb1 cb1, .slice aa1 na1 ca1] 87)).drew = WD at *
      have hbw := HD.out.1
      have ga0 := HD.out.2.1.1 0 _ rfl
      have gb0 := HD.out.2.2.1 0 _ rfl
      have ga1 := HD.out.2.1.1 1 _ rfl
      have gb1 := HD.out.2.2.1 1 _ rfl
      have ga2 := HD.out.2.1.1 2 _ rfl
      have gb2 := HD.out.2.2.1 2 _ rfl
      have ga3 := HD.out.2.1.1 3 _ rfl
      have gb3 := HD.out.2.2.1 3 _ rfl
      have ga4 := HD.out.2.1.1 4 _ rfl
      have gb4 := HD.out.2.2.1 4 _ rfl
      have ga5 := HD.out.2.1.1 5 _ rfl
      have gb5 := HD.out.2.2.1 5 _ rfl
      have ga6 := HD.out.2.1.1 6 _ rfl
      have gb6 := HD.out.2.2.1 6 _ rfl
      have ga7 := HD.out.2.1.1 7 _ rfl
      have gb7 := HD.out.2.2.1 7 _ rfl
      have ga8 := HD.out.2.1.1 8 _ rfl
      have gb8 := HD.out.2.2.1 8 _ rfl
      have ga9 := HD.out.2.1.1 9 _ rfl
      have gb9 := HD.out.2.2.1 9 _ rfl
      have ga10 := HD.out.2.1.1 10 _ rfl
      have gb10 := HD.out.2.2.1 10 _ rfl
      have ga11 := HD.out.2.1.1 11 _ rfl
      have gb11 := HD.out.2.2.1 11 _ rfl
      have ga12 := HD.out.2.1.1 12 _ rfl
      have gb12 := HD.out.2.2.1 12 _ rfl
      clear z0 v0 z1 v1 z2 v2 z3 v3 z4 v4 z5 v5 z6 v6 z7 v7 z8 v8 z9 v9 z10 v10 z11 v11 z12 v12 p0 q0 p1 q1 p2 q2 p3 q3 p4 q4 p5 q5 p6 q6
      replace p7 := later' hbw p7
      replace q7 := later' hbw q7
      go_wp2_with fail
      refine (HT.out _ hbw).mono ?_
      rintro e w5 ⟨rfl, hb5⟩
      have H5 := Hd (Ai (onB' hbw hb5) (Ai (HD.out.2.1.below hb5) (HD.out.2.2.below hb5)))
      clear HT hb5 p7 q7 ga0 gb0 ga1 gb1 ga2 gb2 ga3 gb3 ga4 gb4 ga5 gb5 ga6 gb6 ga7 gb7 ga8 gb8 ga9 gb9 ga10 gb10 ga11 gb11 ga12 gb12
      have ga5 := H5.out.2.1.1 5 _ rfl
      have gb5 := H5.out.2.2.1 5 _ rfl
      have ga6 := H5.out.2.1.1 6 _ rfl
      have gb6 := H5.out.2.2.1 6 _ rfl
      have ga7 := H5.out.2.1.1 7 _ rfl
      have gb7 := H5.out.2.2.1 7 _ rfl
      have ga8 := H5.out.2.1.1 8 _ rfl
      have gb8 := H5.out.2.2.1 8 _ rfl
      have ga9 := H5.out.2.1.1 9 _ rfl
      have gb9 := H5.out.2.2.1 9 _ rfl
      have ga10 := H5.out.2.1.1 10 _ rfl
      have gb10 := H5.out.2.2.1 10 _ rfl
      have ga11 := H5.out.2.1.1 11 _ rfl
      have gb11 := H5.out.2.2.1 11 _ rfl
      have ga12 := H5.out.2.1.1 12 _ rfl
      have gb12 := H5.out.2.2.1 12 _ rfl
      go_wp2_with fail
      refine (HXx.out _ H5.out.1).mono ?_
      rintro e w6 ⟨rfl, hb6⟩
      have HE := Hd (onB' HR.out.2.2.2 (onB' H5.out.1 hb6))
      clear hb6 HXx ga5 gb5 ga6 gb6 ga7 gb7 ga8 gb8 ga9 gb9 ga10 gb10 ga11 gb11 ga12 gb12
      go_wp2_with fail
      exact ⟨⟨j + 1, by omega, by go_num, HE.out⟩, by simp [RowKit.intOf]; omega⟩
    ·obtain rfl : j = al.length := by omega
     go_wp2_with fail
     go_ret
     exact ⟨rfl, HR.out.1⟩
theorem region_some {P : Program} {md : Region.Mode} {ops : Array Oper} {Q : Exit → Act → World → Prop} {S : World → Prop} (k : Nat) (L : Nat → Array Bool) (idx zeros : Nat → Nat) (I : Nat → Act → World → Prop) (fuel0 full : Nat)
  (hchk : ∀ n, n < full → Region.ready md ops (L n) ≠ [] ∧ ∀ i ∈ Region.ready md ops (L n), ∃ j, j < k ∧ idx j = i ∧ n.testBit j = false ∧ n + 2 ^ j ≤ full ∧ (L n).setIfInBounds i true = L (n + 2 ^ j) ∧ zeros n = zeros (n + 2 ^ j) + 1)
  (hstep : ∀ n j a w, n < full → j < k → n.testBit j = false → idx j ∈ Region.ready md ops (L n) → I n a w → wpOp P ops Q (idx j) (fun a' w' => S w' ∧ I (n + 2 ^ j) a' w') a w)
  (hz : zeros full = 0) (hrest : ∀ a w, I full a w → wpAnyH P md ops Q S fuel0 (L full) a w) :
  ∀ (m n : Nat) (a : Act) (w : World), zeros n = m → n ≤ full → I n a w → wpAnyH P md ops Q S (fuel0 + m) (L n) a w := by
 intro m
 induction m with
 | zero =>
  intro n a w h0 hn hI
  rcases Nat.lt_or_ge n full with hlt | hge
  ·obtain ⟨hne, hall⟩ := hchk n hlt
   obtain ⟨i, hi⟩ := List.exists_mem_of_ne_nil _ hne
   obtain ⟨j, _, _, _, _, _, hz2⟩ := hall i hi
   omega
  ·obtain rfl : n = full := by omega
   exact hrest a w hI
 | succ m ih =>
  intro n a w h0 hn hI
  rcases Nat.lt_or_ge n full with hlt | hge
  ·obtain ⟨hne, hall⟩ := hchk n hlt
   refine ⟨fun h => absurd h hne, fun i hi => ?_⟩
   obtain ⟨j, h1, rfl, h3, h4, h5, h6⟩ := hall i hi
   refine wpOp_mono (fun a' w' hh => ⟨hh.1, ?_⟩) (hstep n j a w hlt h1 h3 hi hI)
   rw [h5]
   exact ih (n + 2 ^ j) a' w' (by omega) h4 hh.2
  ·obtain rfl : n = full := by omega
   omega
def depsOf (ops : Array Oper) : List (List Nat) := ops.toList.map fun o => (o.after.toList.filter (Region.binds .any)).map (·.on)
def lsOf (base : List Nat) (k : Nat) (idx : Nat → Nat) (n m : Nat) : Bool := base.contains m || (List.range k).any fun j => idx j == m && n.testBit j
def LsOf (base : List Nat) (k : Nat) (idx : Nat → Nat) (len n : Nat) : Array Bool := ((List.range len).map (lsOf base k idx n)).toArray
theorem ls_at (base : List Nat) (k : Nat) (idx : Nat → Nat) (len n : Nat) {m : Nat} (hm : m < len) (d : Bool) : (LsOf base k idx len n).getD m d = lsOf base k idx n m := by
 unfold LsOf
 simp [Array.getD, hm]
theorem ready_deps {ops : Array Oper} {D : List (List Nat)} (hD : depsOf ops = D) {base : List Nat} {k : Nat} {idx : Nat → Nat} {n i : Nat} (hlen : D.all (fun d => d.all fun e => decide (e < D.length)) = true) :
  i ∈ Region.ready .any ops (LsOf base k idx D.length n) ↔ i < D.length ∧ lsOf base k idx n i = false ∧ ((D[i]?).getD []).all (lsOf base k idx n) = true := by
 have hs : ops.size = D.length := by rw [← hD]; simp [depsOf]
 unfold Region.ready
 rw [List.mem_filter, List.mem_range, hs]
 constructor
 ·rintro ⟨h1, h2⟩
  simp only [Bool.and_eq_true, Bool.not_eq_true'] at h2
  rw [ls_at _ _ _ _ _ h1] at h2
  have ho : i < ops.size := by omega
  refine ⟨h1, h2.1, ?_⟩
  have hd : D[i]? = some ((ops[i].after.toList.filter (Region.binds .any)).map (·.on)) := by rw [← hD]; simp [depsOf, ho]
  have h3 := h2.2
  rw [Array.getElem?_eq_getElem ho] at h3
  simp only [Option.map_some, Option.getD_some] at h3
  rw [hd]
  simp only [Option.getD_some, List.all_eq_true, List.mem_map, List.mem_filter]
  rintro e ⟨x, ⟨hx, hb⟩, rfl⟩
  have h4 := (Array.all_eq_true'.1 h3) x (by simpa using hx)
  rw [hb] at h4
  simp only [Bool.not_true, Bool.false_or] at h4
  have hlt : x.on < D.length := by
   have h5 := List.all_eq_true.1 (List.all_eq_true.1 hlen _ (List.mem_of_getElem? hd)) x.on (List.mem_map.2 ⟨x, List.mem_filter.2 ⟨hx, hb⟩, rfl⟩)
   exact of_decide_eq_true h5
  rwa [ls_at _ _ _ _ _ hlt] at h4
 ·rintro ⟨h1, h2, h3⟩
  have ho : i < ops.size := by omega
  refine ⟨h1, ?_⟩
  simp only [Bool.and_eq_true, Bool.not_eq_true']
  rw [ls_at _ _ _ _ _ h1]
  refine ⟨h2, ?_⟩
  have hd : D[i]? = some ((ops[i].after.toList.filter (Region.binds .any)).map (·.on)) := by rw [← hD]; simp [depsOf, ho]
  rw [Array.getElem?_eq_getElem ho]
  simp only [Option.map_some, Option.getD_some]
  rw [Array.all_eq_true']
  intro x hx
  cases hb : Region.binds .any x with
  | false => rfl
  | true =>
   have hm : x.on ∈ (ops[i].after.toList.filter (Region.binds .any)).map (·.on) := List.mem_map.2 ⟨x, List.mem_filter.2 ⟨by simpa using hx, hb⟩, rfl⟩
   have hlt : x.on < D.length := of_decide_eq_true (List.all_eq_true.1 (List.all_eq_true.1 hlen _ (List.mem_of_getElem? hd)) x.on hm)
   rw [ls_at _ _ _ _ _ hlt]
   rw [hd] at h3
   simpa using List.all_eq_true.1 h3 x.on hm
def chkSome (D : List (List Nat)) (base : List Nat) (k : Nat) (idx zeros : Nat → Nat) (full : Nat) : Bool :=
 D.all (fun d => d.all fun e => decide (e < D.length)) && (List.range k).all (fun j => decide (idx j < D.length)) &&
 (List.range full).all fun n =>
  ((List.range k).any fun j => !lsOf base k idx n (idx j) && ((D[idx j]?).getD []).all (lsOf base k idx n)) &&
  (List.range D.length).all fun i => lsOf base k idx n i || !((D[i]?).getD []).all (lsOf base k idx n) || (List.range k).any fun j => idx j == i && !n.testBit j && decide (n + 2 ^ j ≤ full) && zeros n == zeros (n + 2 ^ j) + 1
theorem chkSome_spec {ops : Array Oper} {D : List (List Nat)} (hD : depsOf ops = D) {base : List Nat} {k : Nat} {idx zeros : Nat → Nat} {full : Nat} (h : chkSome D base k idx zeros full = true)
  (hbits : ∀ n j, n < full → j < k → n.testBit j = false → ∀ i, i < k → (n + 2 ^ j).testBit i = (n.testBit i || decide (i = j))) (_ : ∀ i j, i < k → j < k → idx i = idx j → i = j) :
  ∀ n, n < full → Region.ready .any ops (LsOf base k idx D.length n) ≠ [] ∧ ∀ i ∈ Region.ready .any ops (LsOf base k idx D.length n), ∃ j, j < k ∧ idx j = i ∧ n.testBit j = false ∧ n + 2 ^ j ≤ full ∧ (LsOf base k idx D.length n).setIfInBounds i true = LsOf base k idx D.length (n + 2 ^ j) ∧ zeros n = zeros (n + 2 ^ j) + 1 := by
 intro n hn
 unfold chkSome at h
 simp only [Bool.and_eq_true] at h
 obtain ⟨⟨hlen, hidx⟩, hall⟩ := h
 have h1 := List.all_eq_true.1 hall n (List.mem_range.2 hn)
 simp only [Bool.and_eq_true] at h1
 refine ⟨fun he => ?_, fun i hi => ?_⟩
 ·obtain ⟨j, hj, hq⟩ := List.any_eq_true.1 h1.1
  simp only [Bool.and_eq_true, Bool.not_eq_true'] at hq
  have hm : idx j ∈ Region.ready .any ops (LsOf base k idx D.length n) := (ready_deps hD hlen).2 ⟨of_decide_eq_true (List.all_eq_true.1 hidx j hj), hq.1, hq.2⟩
  rw [he] at hm
  cases hm
 ·obtain ⟨i1, i2, i3⟩ := (ready_deps hD hlen).1 hi
  have h2 := List.all_eq_true.1 h1.2 i (List.mem_range.2 i1)
  rw [i2, i3] at h2
  simp only [Bool.not_true, Bool.false_or] at h2
  obtain ⟨j, hj, hq⟩ := List.any_eq_true.1 h2
  simp only [Bool.and_eq_true, Bool.not_eq_true', beq_iff_eq, decide_eq_true_eq] at hq
  obtain ⟨⟨⟨q1, q2⟩, q3⟩, q4⟩ := hq
  have hjk := List.mem_range.1 hj
  refine ⟨j, hjk, q1, q2, q3, ?_, q4⟩
  apply Array.ext_getElem?
  intro m
  unfold LsOf
  rw [Array.getElem?_setIfInBounds]
  by_cases hm : m < D.length
  ·have hb := hbits n j hn hjk q2
   have hl : lsOf base k idx (n + 2 ^ j) m = (lsOf base k idx n m || decide (i = m)) := by
    unfold lsOf
    by_cases e : i = m
    ·subst e
     have : (List.range k).any (fun j' => idx j' == i && (n + 2 ^ j).testBit j') = true := List.any_eq_true.2 ⟨j, hj, by rw [hb j hjk]; simp [q1]⟩
     simp [this]
    ·have : (List.range k).any (fun j' => idx j' == m && (n + 2 ^ j).testBit j') = (List.range k).any (fun j' => idx j' == m && n.testBit j') := by
      apply Bool.eq_iff_iff.2
      simp only [List.any_eq_true, List.mem_range, Bool.and_eq_true, beq_iff_eq]
      constructor
      ·rintro ⟨j', a1, a2, a3⟩
       rw [hb j' a1] at a3
       refine ⟨j', a1, a2, ?_⟩
       have hne : j' ≠ j := fun e2 => e (by rw [← q1, ← e2]; exact a2)
       simpa [hne] using a3
      ·rintro ⟨j', a1, a2, a3⟩
       exact ⟨j', a1, a2, by rw [hb j' a1, a3]; rfl⟩
     rw [this]
     simp [e]
   by_cases e : i = m
   ·subst e
    simp [hm, hl]
   ·simp [hm, hl, e]
  ·by_cases e : i = m
   ·subst e; exact absurd i1 hm
   ·simp [hm, e]
def KX (w : World) (m : Nat) (es : List (Sh × Value)) : Prop := w.heap[m]? = some (.map (entries es).toArray es.length)
theorem KX.lt {w : World} {m : Nat} {es : List (Sh × Value)} (h : KX w m es) : m < w.heap.size := by
 rcases Nat.lt_or_ge m w.heap.size with h' | h'
 ·exact h'
 ·unfold KX at h; rw [Array.getElem?_eq_none h'] at h; cases h
theorem entries_snoc (es : List (Sh × Value)) (x : Sh × Value) : entries (es ++ [x]) = entries es ++ [⟨.agg #[.int .i64 x.1.1, .string (tx x.1.2)], x.2, es.length⟩] := by
 simp [entries, List.zipIdx_append]
theorem KX.insert {w : World} {m : Nat} {es : List (Sh × Value)} (h : KX w m es) (s : Sh) (v : Value) (hs : lookSh es s = none) :
  ∃ w', (Instr.mapUpdate 101 (.map (some m)) (.agg #[.int .i64 s.1, .string (tx s.2)]) v).run Tryz.prog w = .ok () w' ∧ KX w' m (es ++ [(s, v)]) ∧ w.grownBy w' (some m) := by
 have hk : Tryz.prog.underlying 101 = some (.map 105 106) := by kernel_rfl
 have hc : (Instr.checkKey false 10000 105 (.agg #[.int .i64 s.1, .string (tx s.2)])).run Tryz.prog w = .ok () w := check_shape false 9998 s w
 obtain ⟨r, h1, h2⟩ := findKey_shape s es w
 rw [hs] at h2
 have hr : r = none := by cases r with
  | none => rfl
  | some x => cases h2
 subst hr
 have hlt := h.lt
 unfold KX at h
 generalize hE : Instr.checkKey false 10000 = E at *
 refine ⟨{ w with heap := w.heap.set! m (.map (entries (es ++ [(s, v)])).toArray (es ++ [(s, v)]).length) }, ?_, ?_, ?_⟩
 ·rw [entries_snoc]
  unfold Instr.mapUpdate
  simp [run_underlying hk, hE, hc, h1, (by simp [getObj, Sem.run, h] : (getObj m).run Tryz.prog w = .ok (.map (entries es).toArray es.length) w), setObj, Sem.run, h]
 ·unfold KX
  simp [hlt]
 ·refine ⟨rfl, rfl, rfl, by simp, fun g hg hne => ?_⟩
  have : m ≠ g := fun e => hne (by rw [e])
  simp [this]
theorem wpOp_of {P : Program} {ops : Array Oper} {Q : Exit → Act → World → Prop} {i : Nat} {o : Oper} {a : Act} {w : World} {K : Act → World → Prop} (ho : ops[i]? = some o) (hg : o.guard = none) (h : o.wp P a w K Q) : wpOp P ops Q i K a w := by
 unfold wpOp
 have hw : Region.wanted o (yielded ops a.tmps) = true := by simp [Region.wanted, hg]
 simp only [ho, hw, if_true]
 exact Or.inl h
theorem wp_insert {o : Oper} {a : Act} {w : World} {K : Act → World → Prop} {Q : Exit → Act → World → Prop} (mo xo vo : Operand) (hop : o.op = Op.insert 101 mo xo vo) (m : Nat) (s : Sh) (v : Value) (hm : a.eval mo = .map (some m)) (hx : a.eval xo = .agg #[.int .i64 s.1, .string (tx s.2)]) (hv : a.eval vo = v)
  (es : List (Sh × Value)) (h : KX w m es) (hs : lookSh es s = none) (hK : ∀ w', KX w' m (es ++ [(s, v)]) → w.grownBy w' (some m) → K (a.put o.dst undef) w') : Oper.wp Tryz.prog o a w K Q := by
 obtain ⟨w', hr, h1, h2⟩ := h.insert s v hs
 unfold Oper.wp
 have hk := hK w' h1 h2
 simp [execOp, hop, hm, hx, hv, hr, Result.andThen]
 exact hk
theorem look_new {tab es : List (Sh × Value)} (hn : (tab.map (·.1)).Nodup) (hsub : ∀ x, x ∈ es → x ∈ tab) {x : Sh × Value} (hx : x ∈ tab) (hne : x ∉ es) : lookSh es x.1 = none := by
 unfold lookSh
 simp only [Option.map_eq_none_iff, List.find?_eq_none, decide_eq_true_eq]
 intro y hy e
 have hy' := hsub y hy
 have : y = x := by
  clear hsub hne hy
  induction tab with
  | nil => cases hx
  | cons z tab ih =>
   simp only [List.map_cons, List.nodup_cons] at hn
   rcases List.mem_cons.1 hx with q | hx2
   ·rcases List.mem_cons.1 hy' with q2 | hy2
    ·rw [q, q2]
    ·exact absurd (List.mem_map.2 ⟨y, hy2, by rw [e, q]⟩) hn.1
   ·rcases List.mem_cons.1 hy' with q2 | hy2
    ·exact absurd (List.mem_map.2 ⟨x, hx2, by rw [← e, q2]⟩) hn.1
    ·exact ih hn.2 hx2 hy2
 exact hne (this ▸ hy)
theorem look_all {tab es : List (Sh × Value)} (hn : (tab.map (·.1)).Nodup) (hsub : ∀ x, x ∈ es → x ∈ tab) (hall : ∀ x, x ∈ tab → x ∈ es) (s : Sh) : lookSh es s = lookSh tab s := by
 have uniq : ∀ {l : List (Sh × Value)}, (∀ x, x ∈ l → x ∈ tab) → ∀ x, x ∈ l → lookSh l x.1 = some x.2 := by
  intro l hl x hx
  unfold lookSh
  cases hf : l.find? (fun p => decide (p.1 = x.1)) with
  | none => exact absurd (by simp) (List.find?_eq_none.1 hf x hx)
  | some y =>
   have hy := List.mem_of_find?_eq_some hf
   have he := List.find?_some hf
   have hk : y.1 = x.1 := of_decide_eq_true he
   have : y = x := by
    have h1 := hl y hy
    have h2 := hl x hx
    clear hl hx hy hf he hsub hall
    induction tab with
    | nil => cases h1
    | cons z tab ih =>
     simp only [List.map_cons, List.nodup_cons] at hn
     rcases List.mem_cons.1 h1 with q | h3
     ·rcases List.mem_cons.1 h2 with q2 | h4
      ·rw [q, q2]
      ·exact absurd (List.mem_map.2 ⟨x, h4, by rw [← hk, q]⟩) hn.1
     ·rcases List.mem_cons.1 h2 with q2 | h4
      ·exact absurd (List.mem_map.2 ⟨y, h3, by rw [hk, q2]⟩) hn.1
      ·exact ih hn.2 h3 h4
   rw [this]; rfl
 by_cases g : ∃ x, x ∈ tab ∧ x.1 = s
 ·obtain ⟨x, hx, rfl⟩ := g
  rw [uniq hsub x (hall x hx), uniq (fun _ h => h) x hx]
 ·have none : ∀ {l : List (Sh × Value)}, (∀ x, x ∈ l → x ∈ tab) → lookSh l s = none := by
   intro l hl
   unfold lookSh
   simp only [Option.map_eq_none_iff, List.find?_eq_none, decide_eq_true_eq]
   exact fun x hx e => g ⟨x, hl x hx, e⟩
  rw [none hsub, none (fun _ h => h)]
def zeros (k n : Nat) : Nat := ((List.range k).filter fun j => !n.testBit j).length
def IDX8 (j : Nat) : Nat := 4 * j + 5
def BASE8 : List Nat := [0, 1, 2, 3, 4, 6, 7, 8, 10, 11, 12, 14, 15, 16, 18, 19, 20, 22, 23, 24, 26, 27, 28, 30, 31, 32]
def D8 : List (List Nat) := [[], [], [], [], [3], [1, 2, 4], [], [], [7], [1, 6, 8], [], [], [11], [1, 10, 12], [], [], [15], [1, 14, 16], [], [], [19], [1, 18, 20], [], [], [23], [1, 22, 24], [], [], [27], [1, 26, 28], [], [], [31], [1, 30, 32], [1, 2, 3, 4, 5, 6, 7, 8, 9, 10, 11, 12, 13, 14, 15, 16, 17, 18, 19, 20, 21, 22, 23, 24, 25, 26, 27, 28, 29, 30, 31, 32, 33], [0, 0, 1, 2, 3, 4, 5, 6, 7, 8, 9, 10, 11, 12, 13, 14, 15, 16, 17, 18, 19, 20, 21, 22, 23, 24, 25, 26, 27, 28, 29, 30, 31, 32, 33, 34], [35, 0, 1, 2, 3, 4, 5, 6, 7, 8, 9, 10, 11, 12, 13, 14, 15, 16, 17, 18, 19, 20, 21, 22, 23, 24, 25, 26, 27, 28, 29, 30, 31, 32, 33, 34], [36, 34, 0, 1, 2, 3, 4, 5, 6, 7, 8, 9, 10, 11, 12, 13, 14, 15, 16, 17, 18, 19, 20, 21, 22, 23, 24, 25, 26, 27, 28, 29, 30, 31, 32, 33, 34]]
def L8 (n : Nat) : Array Bool := LsOf BASE8 8 IDX8 D8.length n
theorem chk8 : chkSome D8 BASE8 8 IDX8 (zeros 8) 255 = true := by decide +kernel
theorem inserts8 {ops : Array Oper} {Q : Exit → Act → World → Prop} {S : World → Prop} (tab : List (Sh × Value)) (hnd : (tab.map (·.1)).Nodup) (a : Act) (m : Nat) (w : World)
  (hD : depsOf ops = D8)
  (hops : ∀ j, j < 8 → ∃ o mo xo vo x, ops[4 * j + 5]? = some o ∧ o.guard = none ∧ o.dst = none ∧ o.op = Op.insert 101 mo xo vo ∧ tab[j]? = some x ∧ a.eval mo = .map (some m) ∧ a.eval xo = .agg #[.int .i64 x.1.1, .string (tx x.1.2)] ∧ a.eval vo = x.2)
  (hS : ∀ w', w.grownBy w' (some m) → S w') (hm : KX w m [])
  (hrest : ∀ w' es, KX w' m es → (∀ s, lookSh es s = lookSh tab s) → w.grownBy w' (some m) → tab.length = 8 → wpAnyH Tryz.prog .any ops Q S 4 (L8 255) a w') (hlen : tab.length = 8) :
  wpAnyH Tryz.prog .any ops Q S 12 (L8 0) a w := by
 have hp : ∀ n j, j < 8 → n < 255 → n.testBit j = false → ∀ i, i < 8 → (n + 2 ^ j).testBit i = (n.testBit i || decide (i = j)) := by
  have hq : ∀ n : Fin 255, ∀ j : Fin 8, n.val.testBit j.val = false → ∀ i : Fin 8, (n.val + 2 ^ j.val).testBit i.val = (n.val.testBit i.val || decide (i.val = j.val)) := by decide +kernel
  exact fun n j hj hn h i hi => hq ⟨n, hn⟩ ⟨j, hj⟩ h ⟨i, hi⟩
 refine region_some (S := S) 8 L8 IDX8 (zeros 8) (fun n a' w' => a' = a ∧ w.grownBy w' (some m) ∧ ∃ es, KX w' m es ∧ (∀ x, x ∈ es → x ∈ tab) ∧ ∀ j x, j < 8 → tab[j]? = some x → (x ∈ es ↔ n.testBit j = true)) 4 255 (chkSome_spec hD chk8 (fun n j a b c => hp n j b a c) (fun i j _ _ e => by unfold IDX8 at e; omega)) ?_ (by decide) ?_ 8 0 a w (by decide) (by decide) ⟨rfl, ⟨rfl, rfl, rfl, Nat.le_refl _, fun _ _ _ => rfl⟩, [], hm, fun x hx => (by cases hx), fun j x hj hx => by simp⟩
 ·rintro n j a' w' hn hj hb hi ⟨rfl, hg, es, hK, hsub, hmem⟩
  obtain ⟨o, mo, xo, vo, x, ho, hgd, hds, hop, hx, e1, e2, e3⟩ := hops j hj
  have hxt : x ∈ tab := List.mem_of_getElem? hx
  have hne : x ∉ es := fun h => by rw [(hmem j x hj hx).1 h] at hb; cases hb
  refine wpOp_of ho hgd (wp_insert mo xo vo hop m x.1 x.2 e1 e2 e3 es hK (look_new hnd hsub hxt hne) fun w2 h1 h2 => ?_)
  have hg2 := Gt hg h2
  refine ⟨hS w2 hg2, by rw [hds]; rfl, hg2, _, h1, fun y hy => ?_, fun i y hi hy => ?_⟩
  ·rcases List.mem_append.1 hy with hy | hy
   ·exact hsub y hy
   ·simp at hy; rw [hy]; exact hxt
  ·rw [hp n j hj hn hb i hi]
   simp only [List.mem_append, List.mem_singleton, Bool.or_eq_true, decide_eq_true_eq, hmem i y hi hy]
   constructor
   ·rintro (h | h)
    ·exact Or.inl h
    ·refine Or.inr ?_
     have hij : tab[i]? = tab[j]? := by rw [hy, hx, h]
     have hnt : tab.Nodup := (List.pairwise_map.1 hnd).imp (fun h e => h (by rw [e]))
     exact (List.getElem?_inj (by omega) hnt).1 hij
   ·rintro (h | h)
    ·exact Or.inl h
    ·subst h; rw [hy] at hx; cases hx; exact Or.inr rfl
 ·rintro a' w' ⟨rfl, hg, es, hK, hsub, hmem⟩
  refine hrest w' es hK (look_all hnd hsub fun x hx => ?_) hg hlen
  obtain ⟨j, hj⟩ := List.getElem?_of_mem hx
  have hj8 : j < 8 := by
   have := (List.getElem?_eq_some_iff.1 hj).1
   omega
  exact (hmem j x hj8 hj).2 ((by decide : ∀ j : Fin 8, (255 : Nat).testBit j.val = true) ⟨j, hj8⟩)
theorem named_make (b : Nat) (k : Int) (w : World) : Calls Tryz.prog 56 #[.pointer (some ⟨b, 0, none⟩), .int .i64 k] w (fun e w' => ∃ gk gr, e = .returned (namer gk gr) ∧ w'.cell? ⟨gk, 0, none⟩ = some (.int .i64 k) ∧ w'.cell? ⟨gr, 0, none⟩ = some (.pointer (some ⟨b, 0, none⟩)) ∧ w.heap.size ≤ gk ∧ w.heap.size ≤ gr ∧ Below w.heap.size w w') := by
 go_enter Tryz.func56, Tryz.ntmps56
 go_wp2_with fail
 refine bodyPost_ret (v := namer (w.heap.size + 1) w.heap.size) (by simp [results, Tryz.results56, go_sem, namer]) rfl ?_
 refine ⟨_, _, rfl, ?_, ?_, by omega, Nat.le_refl _, (Br.alloc Nr _).alloc (by simp) _⟩
 ·have h := (BoxW.alloc (w.alloc (.cells #[.pointer (some ⟨b, 0, none⟩)] 60)) #[.int .i64 k] 3).1 0 _ rfl
  have hs : (w.alloc (.cells #[.pointer (some ⟨b, 0, none⟩)] 60)).heap.size = w.heap.size + 1 := by simp
  rw [hs] at h
  exact h
 ·have h := (BoxW.alloc w #[.pointer (some ⟨b, 0, none⟩)] 60)
  exact (h.below (Br.alloc Nr _)).1 0 _ rfl
theorem wp_make {o : Oper} {a : Act} {w : World} {K : Act → World → Prop} {Q : Exit → Act → World → Prop} (hop : o.op = Op.makeMap 101 none) (hK : K (a.put o.dst (.map (some w.heap.size))) (w.alloc (.map #[] 0))) : Oper.wp Tryz.prog o a w K Q := by
 unfold Oper.wp
 simp [execOp, hop, Instr.makeMap, go_sem]
 exact hK
theorem wp_named {o : Oper} {a : Act} {w : World} {K : Act → World → Prop} {Q : Exit → Act → World → Prop} (b : Nat) (k : Int) (x : Operand) (ts : Array TypeId) (hop : o.op = .call { callee := .value (.func 56), args := #[x, .const (.int .i64 k)], argTypes := ts }) (hx : a.eval x = .pointer (some ⟨b, 0, none⟩))
  (hK : ∀ gk gr w', w'.cell? ⟨gk, 0, none⟩ = some (.int .i64 k) → w'.cell? ⟨gr, 0, none⟩ = some (.pointer (some ⟨b, 0, none⟩)) → w.heap.size ≤ gk → w.heap.size ≤ gr → Below w.heap.size w w' → K (a.put o.dst (namer gk gr)) w') : Oper.wp Tryz.prog o a w K Q := by
 have hen : ∀ args w, (callFunc 56 args).run Tryz.prog w = .ok (.enter 56 args) w := enters_of Tryz.func56 (by kernel_rfl) rfl
 have hc : a.eval (.const (.int .i64 k)) = .int .i64 k := rfl
 have hf : a.eval (.func 56) = .func (.func 56) #[] #[] := rfl
 unfold Oper.wp execOp
 simp only [hop, resolve, List.map_toArray, List.map_cons, List.map_nil, hx, hc, hf]
 simp [Deferred.ofValue, invoke, hen, Oper.upon]
 refine (named_make b k w).mono ?_
 rintro e w' ⟨gk, gr, rfl, h1, h2, h3, h4, h5⟩
 exact hK gk gr w' h1 h2 h3 h4 h5
theorem below_map {w w' : World} {o : Obj} (hg : (w.alloc o).grownBy w' (some w.heap.size)) : Below w.heap.size w w' :=
 ⟨hg.os, hg.tape, hg.output, by have := hg.size; simp at this; omega, fun k hk => (hg.block k (by simp; omega) (by simp; omega)).trans (((Below.refl w.heap.size w).alloc Nr o).block k hk)⟩
end Go.Proofs.YtbnmmbjajheedaaGreatDoor
