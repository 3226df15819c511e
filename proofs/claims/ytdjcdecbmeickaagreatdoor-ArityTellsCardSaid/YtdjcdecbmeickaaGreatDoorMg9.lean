import Derived.Test.YtdjcdecbmeickaaGreatDoorMg8
namespace Go.Proofs.YtdjcdecbmeickaaGreatDoor
set_option maxHeartbeats 64000000
set_option maxRecDepth 100000
open Go.RowKit Go.Lib
theorem pa {W : World} {g o j i : Nat} {v : Value} (h : W.cell? ⟨g, o + (j + i), none⟩ = some v) : W.cell? ⟨g, o + j + i, none⟩ = some v := by rw [Nat.add_assoc]; exact h
theorem doca_step (n : Nat) (hP : DocA n) : DocA (n + 1) := by
  intro x b st cl ac cc w k nm f u ap np cp ak nk ck ab nb cb aa na ca hz hS hc ht
  obtain ⟨ps, ks, bl, al, xk, xb, xa, rfl, rfl, rfl, rfl, rfl, hp, hk, hb, ha, tk, tb, ta⟩ := ht.opened
  have hne : w.heap.size ≠ b := fun e => by have := hS.lt; omega
  simp only [Ex.mk.sizeOf_spec] at hz
  have HZ := Hd (show (∀ y, y ∈ bl → SizeOf.sizeOf y.2.2 ≤ n) ∧ (∀ y, y ∈ ks → SizeOf.sizeOf y ≤ n) ∧ (∀ y, y ∈ al → SizeOf.sizeOf y.2.2.2.2.2 ≤ n) by
    refine ⟨fun y hy => ?_, fun y hy => ?_, fun y hy => ?_⟩
    · have := List.sizeOf_lt_of_mem hy
      obtain ⟨a, b, c⟩ := y
      simp only [Prod.mk.sizeOf_spec] at this ⊢
      omega
    · have := List.sizeOf_lt_of_mem hy
      omega
    · have := List.sizeOf_lt_of_mem hy
      obtain ⟨a, b, c, d, e, g⟩ := y
      simp only [Prod.mk.sizeOf_spec] at this ⊢
      omega)
  have hmp := hp.cap
  have hmk := hk.cap
  have hmb := hb.cap
  have hma := ha.cap
  unfold maxLen at hmp hmk hmb hma
  have HO := Hd (Ai hc (Ai hb (Ai tb (Ai hk (Ai tk (Ai ha ta))))))
  have HPp := Hd hp
  have HM := Hd (adE_mk cl k nm f u ps ks bl al)
  clear hz hc ht hp hk hb ha tk tb ta
  by_cases g2 : k = 2
  ·subst g2
   have hH : adH cl 2 nm ps ks.length = countD cl nm ks.length := rfl
   rw [hH] at HM
   clear hH
   have hx := (Below.refl w.heap.size w).alloc Nr (.cells #[.int .i64 2, .string (tx nm), .bool f, .int .u64 u, .slice ap ps.length cp, .slice ak ks.length ck, .slice ab bl.length cb, .slice aa al.length ca] 57)
   have hB := BoxW.alloc w #[.int .i64 2, .string (tx nm), .bool f, .int .u64 u, .slice ap ps.length cp, .slice ak ks.length ck, .slice ab bl.length cb, .slice aa al.length ca] 57
   have HX := Hd (Ai (hS.later hx) (Ai (grown_of (b := b) hx) hB))
   clear hS hx hB
   have HC := Hd (acount_any b st cl ac cc nm (ks.length : Int) _ HX.out.1 (HO.out.1.apart HX.out.2.1))
   go_enter Tryz.func39, Tryz.ntmps39
   go_wp2_with fail
   refine HC.out.mono ?_
   rintro e w2 ⟨rfl, hs2, hg2⟩
   have H2 := Hd (Ai hs2 (Ai (Gt HX.out.2.1 hg2) (HX.out.2.2.grown hg2 hne)))
   clear hs2 hg2 HC
   obtain ⟨ST, hST⟩ : ∃ ST, ST = st.or (countD cl nm ks.length) := ⟨_, rfl⟩
   rw [← hST] at H2
   have HST := Hd hST
   clear hST
   have y4 := H2.out.2.2.1 4 _ rfl
   have y5 := H2.out.2.2.1 5 _ rfl
   have y6 := H2.out.2.2.1 6 _ rfl
   have y7 := H2.out.2.2.1 7 _ rfl
   go_wp2_with fail
   try clear g'
   try clear fz
   go_loopw [4] (fun s wr => ∃ j : Nat, j ≤ bl.length ∧ s = .int .i64 j ∧ SAt wr b (ST.or (firstF (adB cl) (bl.take j))) (.slice ac cl.length cc) ∧ w.grownBy wr (some b) ∧ BoxW wr w.heap.size [.int .i64 2, .string (tx nm), .bool f, .int .u64 u, .slice ap ps.length cp, .slice ak ks.length ck, .slice ab bl.length cb, .slice aa al.length ca]) (fun s _ => bl.length - (RowKit.intOf s).toNat)
   case atStart => exact ⟨0, Nat.zero_le _, rfl, by rw [List.take_zero, show firstF (adB cl) [] = none from rfl, or_nil_l]; exact H2.out.1, H2.out.2.1, H2.out.2.2⟩
   case round =>
    obtain ⟨j, hj, rfl, hs1, hg1, hb1⟩ := hrel
    have HR := Hd (Ai hs1 (Ai hg1 hb1))
    have x4 := hb1.1 4 _ rfl
    have x5 := hb1.1 5 _ rfl
    have x6 := hb1.1 6 _ rfl
    have x7 := hb1.1 7 _ rfl
    clear hs1 hg1 hb1 y4 y5 y6 y7
    by_cases gj : j < bl.length
    ·have gj' : (j : Int) < (bl.length : Int) := by omega
     obtain ⟨aq9, cq9, k9, nm9, f9, u9, ap9, np9, cp9, ak9, nk9, ck9, ab9, nb9, cb9, aa9, na9, ca9, hQ, hE, hcs⟩ := HO.out.2.2.1.cells j gj
     obtain ⟨g1, o1, ea1, k1, m1', hgb, ht1⟩ := (HO.out.2.1.apart HR.out.2.1).at (by omega)
     subst ea1
     have HPx := Hd (fun i v h => ht1 _ _ (hcs i v h))
     have HT := Hd (show firstF (adB cl) (bl.take (j + 1)) = (firstF (adB cl) (bl.take j)).or (adB cl bl[j]) by rw [List.take_succ_eq_append_getElem gj, firstF_snoc])
     have HXp := Hd (abind_any n hP b (ST.or (firstF (adB cl) (bl.take j))) cl ac cc bl[j].1 bl[j].2.1 bl[j].2.2 aq9 cq9 k9 nm9 f9 u9 ap9 np9 cp9 ak9 nk9 ck9 ab9 nb9 cb9 aa9 na9 ca9 wr (HZ.out.1 _ (List.getElem_mem gj)) hQ.cap HR.out.1 (HO.out.1.apart HR.out.2.1) (hE.apart HR.out.2.1))
     clear ht1 hcs hE hQ
     obtain ⟨bx, hbx⟩ : ∃ bx, bx = bl[j] := ⟨_, rfl⟩
     rw [← hbx] at HXp HT HPx
     clear hbx
     obtain ⟨nb0, ps0, body⟩ := bx
     replace HPx := Hd (show ∀ i v, [.string (tx nb0), .slice aq9 ps0.length cq9, .int .i64 k9, .string (tx nm9), .bool f9, .int .u64 u9, .slice ap9 np9 cp9, .slice ak9 nk9 ck9, .slice ab9 nb9 cb9, .slice aa9 na9 ca9][i]? = some v → wr.cell? ⟨g1, o1 + (j * 10 + i), none⟩ = some v from HPx.out)
     replace HXp := Hd (show Calls Tryz.prog 19 #[.pointer (some ⟨b, 0, none⟩), .agg #[.string (tx nb0), .slice aq9 ps0.length cq9, .int .i64 k9, .string (tx nm9), .bool f9, .int .u64 u9, .slice ap9 np9 cp9, .slice ak9 nk9 ck9, .slice ab9 nb9 cb9, .slice aa9 na9 ca9]] wr fun e w' => e = .returned (.tuple #[]) ∧ SAt w' b ((ST.or (firstF (adB cl) (bl.take j))).or (adB cl (nb0, ps0, body))) (.slice ac cl.length cc) ∧ wr.grownBy w' (some b) from HXp.out)
     have p0 : wr.cell? ⟨g1, o1 + j * 10, none⟩ = some (.string (tx nb0)) := HPx.out 0 _ rfl
     have p1 := pa (HPx.out 1 _ rfl)
     have p2 := pa (HPx.out 2 _ rfl)
     have p3 := pa (HPx.out 3 _ rfl)
     have p4 := pa (HPx.out 4 _ rfl)
     have p5 := pa (HPx.out 5 _ rfl)
     have p6 := pa (HPx.out 6 _ rfl)
     have p7 := pa (HPx.out 7 _ rfl)
     have p8 := pa (HPx.out 8 _ rfl)
     have p9 := pa (HPx.out 9 _ rfl)
     have ej : IntKind.i64.wrap ((j : Int) + 1) = (j : Int) + 1 := by rw [IntKind.wrap_i64]; omega
     have b0 : (0 : Int) ≤ (j : Int) := by omega
     go_wp2_with fail
     refine HXp.out.mono ?_
     rintro e w6 ⟨rfl, hs6, hg6⟩
     have H6 := Hd (Ai hs6 hg6)
     clear hs6 hg6 HXp p0 p1 p2 p3 p4 p5 p6 p7 p8 p9 x4 x5 x6 x7
     go_wp2_with fail
     refine ⟨⟨j + 1, by omega, by go_num, ?_, Gt HR.out.2.1 H6.out.2, HR.out.2.2.grown H6.out.2 hne⟩, by simp [RowKit.intOf]; omega⟩
     rw [HT.out, ← or_assoc_f]
     exact H6.out.1
    ·obtain rfl : j = bl.length := by omega
     have hs2 := HR.out.1
     rw [List.take_length] at hs2
     have HR2 := Hd (Ai hs2 HR.out.2)
     clear hs2 HR
     generalize wr = wA at *
     obtain ⟨ST2, hST2⟩ : ∃ ST2, ST2 = ST.or (firstF (adB cl) bl) := ⟨_, rfl⟩
     rw [← hST2] at HR2
     have HST2 := Hd hST2
     clear hST2
     go_wp2_with fail
     go_loopw [5] (fun s wr => ∃ j : Nat, j ≤ ks.length ∧ s = .int .i64 j ∧ SAt wr b (ST2.or (firstF (adE cl) (ks.take j))) (.slice ac cl.length cc) ∧ w.grownBy wr (some b) ∧ BoxW wr w.heap.size [.int .i64 2, .string (tx nm), .bool f, .int .u64 u, .slice ap ps.length cp, .slice ak ks.length ck, .slice ab bl.length cb, .slice aa al.length ca]) (fun s _ => ks.length - (RowKit.intOf s).toNat)
     case atStart => exact ⟨0, Nat.zero_le _, rfl, by rw [List.take_zero, show firstF (adE cl) [] = none from rfl, or_nil_l]; exact HR2.out.1, HR2.out.2.1, HR2.out.2.2⟩
     case round =>
      obtain ⟨j, hj, rfl, hs1, hg1, hb1⟩ := hrel
      have HR := Hd (Ai hs1 (Ai hg1 hb1))
      clear x4 x5 x6 x7
      have x4 := hb1.1 4 _ rfl
      have x5 := hb1.1 5 _ rfl
      have x6 := hb1.1 6 _ rfl
      have x7 := hb1.1 7 _ rfl
      clear hs1 hg1 hb1
      by_cases gj : j < ks.length
      ·have gj' : (j : Int) < (ks.length : Int) := by omega
       obtain ⟨k9, nm9, f9, u9, ap9, np9, cp9, ak9, nk9, ck9, ab9, nb9, cb9, aa9, na9, ca9, hE, hcs⟩ := HO.out.2.2.2.2.1.cells j gj
       obtain ⟨g1, o1, ea1, k1, m1', hgb, ht1⟩ := (HO.out.2.2.2.1.apart HR.out.2.1).at (by omega)
       subst ea1
       have HPx := Hd (fun i v h => ht1 _ _ (hcs i v h))
       have HT := Hd (show firstF (adE cl) (ks.take (j + 1)) = (firstF (adE cl) (ks.take j)).or (adE cl ks[j]) by rw [List.take_succ_eq_append_getElem gj, firstF_snoc])
       have HXp := Hd (hP ks[j] b (ST2.or (firstF (adE cl) (ks.take j))) cl ac cc wr k9 nm9 f9 u9 ap9 np9 cp9 ak9 nk9 ck9 ab9 nb9 cb9 aa9 na9 ca9 (HZ.out.2.1 _ (List.getElem_mem gj)) HR.out.1 (HO.out.1.apart HR.out.2.1) (hE.apart HR.out.2.1))
       clear ht1 hcs hE
       generalize ks[j] = tk at *
       have p0 : wr.cell? ⟨g1, o1 + j * 8, none⟩ = some (.int .i64 k9) := HPx.out 0 _ rfl
       have p1 := pa (HPx.out 1 _ rfl)
       have p2 := pa (HPx.out 2 _ rfl)
       have p3 := pa (HPx.out 3 _ rfl)
       have p4 := pa (HPx.out 4 _ rfl)
       have p5 := pa (HPx.out 5 _ rfl)
       have p6 := pa (HPx.out 6 _ rfl)
       have p7 := pa (HPx.out 7 _ rfl)
       have ej : IntKind.i64.wrap ((j : Int) + 1) = (j : Int) + 1 := by rw [IntKind.wrap_i64]; omega
       have b0 : (0 : Int) ≤ (j : Int) := by omega
       go_wp2_with fail
       refine HXp.out.mono ?_
       rintro e w6 ⟨rfl, hs6, hg6⟩
       have H6 := Hd (Ai hs6 hg6)
       clear hs6 hg6 HXp p0 p1 p2 p3 p4 p5 p6 p7 x4 x5 x6 x7
       go_wp2_with fail
       refine ⟨⟨j + 1, by omega, by go_num, ?_, Gt HR.out.2.1 H6.out.2, HR.out.2.2.grown H6.out.2 hne⟩, by simp [RowKit.intOf]; omega⟩
       rw [HT.out, ← or_assoc_f]
       exact H6.out.1
      ·obtain rfl : j = ks.length := by omega
       have hs2 := HR.out.1
       rw [List.take_length] at hs2
       have HR3 := Hd (Ai hs2 HR.out.2)
       clear hs2 HR HR2
       generalize wr = wB at *
       obtain ⟨ST3, hST3⟩ : ∃ ST3, ST3 = ST2.or (firstF (adE cl) ks) := ⟨_, rfl⟩
       rw [← hST3] at HR3
       have HST3 := Hd hST3
       clear hST3
       go_wp2_with fail
       go_loopw [6] (fun s wr => ∃ j : Nat, j ≤ al.length ∧ s = .int .i64 j ∧ SAt wr b (ST3.or (firstF (adA cl) (al.take j))) (.slice ac cl.length cc) ∧ w.grownBy wr (some b) ∧ BoxW wr w.heap.size [.int .i64 2, .string (tx nm), .bool f, .int .u64 u, .slice ap ps.length cp, .slice ak ks.length ck, .slice ab bl.length cb, .slice aa al.length ca]) (fun s _ => al.length - (RowKit.intOf s).toNat)
       case atStart => exact ⟨0, Nat.zero_le _, rfl, by rw [List.take_zero, show firstF (adA cl) [] = none from rfl, or_nil_l]; exact HR3.out.1, HR3.out.2.1, HR3.out.2.2⟩
       case round =>
        obtain ⟨j, hj, rfl, hs1, hg1, hb1⟩ := hrel
        have HR := Hd (Ai hs1 (Ai hg1 hb1))
        clear x4 x5 x6 x7
        have x4 := hb1.1 4 _ rfl
        have x5 := hb1.1 5 _ rfl
        have x6 := hb1.1 6 _ rfl
        have x7 := hb1.1 7 _ rfl
        clear hs1 hg1 hb1
        by_cases gj : j < al.length
        ·have gj' : (j : Int) < (al.length : Int) := by omega
         obtain ⟨aq9, cq9, k9, nm9, f9, u9, ap9, np9, cp9, ak9, nk9, ck9, ab9, nb9, cb9, aa9, na9, ca9, hQ, hE, hcs⟩ := HO.out.2.2.2.2.2.2.cells j gj
         obtain ⟨g1, o1, ea1, k1, m1', hgb, ht1⟩ := (HO.out.2.2.2.2.2.1.apart HR.out.2.1).at (by omega)
         subst ea1
         have HPx := Hd (fun i v h => ht1 _ _ (hcs i v h))
         have HT := Hd (show firstF (adA cl) (al.take (j + 1)) = (firstF (adA cl) (al.take j)).or (adA cl al[j]) by rw [List.take_succ_eq_append_getElem gj, firstF_snoc])
         have HZj := Hd (HZ.out.2.2 _ (List.getElem_mem gj))
         have HE := Hd (hE.apart HR.out.2.1)
         clear ht1 hcs hE
         obtain ⟨bx, hbx⟩ : ∃ bx, bx = al[j] := ⟨_, rfl⟩
         rw [← hbx] at HZj HT HPx HE
         clear hQ hbx
         obtain ⟨kd, nb0, fd, ud, ps0, body⟩ := bx
         replace HPx := Hd (show ∀ i v, [.int .i64 kd, .string (tx nb0), .bool fd, .int .u64 ud, .slice aq9 ps0.length cq9, .int .i64 k9, .string (tx nm9), .bool f9, .int .u64 u9, .slice ap9 np9 cp9, .slice ak9 nk9 ck9, .slice ab9 nb9 cb9, .slice aa9 na9 ca9][i]? = some v → wr.cell? ⟨g1, o1 + (j * 13 + i), none⟩ = some v from HPx.out)
         replace HE := Hd (show ExAt wr (Apart b) body [.int .i64 k9, .string (tx nm9), .bool f9, .int .u64 u9, .slice ap9 np9 cp9, .slice ak9 nk9 ck9, .slice ab9 nb9 cb9, .slice aa9 na9 ca9] from HE.out)
         replace HZj := Hd (show SizeOf.sizeOf body ≤ n from HZj.out)
         have p0 : wr.cell? ⟨g1, o1 + j * 13, none⟩ = some (.int .i64 kd) := HPx.out 0 _ rfl
         have p1 := pa (HPx.out 1 _ rfl)
         have p2 := pa (HPx.out 2 _ rfl)
         have p3 := pa (HPx.out 3 _ rfl)
         have p4 := pa (HPx.out 4 _ rfl)
         have p5 := pa (HPx.out 5 _ rfl)
         have p6 := pa (HPx.out 6 _ rfl)
         have p7 := pa (HPx.out 7 _ rfl)
         have p8 := pa (HPx.out 8 _ rfl)
         have p9 := pa (HPx.out 9 _ rfl)
         have p10 := pa (HPx.out 10 _ rfl)
         have p11 := pa (HPx.out 11 _ rfl)
         have p12 := pa (HPx.out 12 _ rfl)
         have ej : IntKind.i64.wrap ((j : Int) + 1) = (j : Int) + 1 := by rw [IntKind.wrap_i64]; omega
         have b0 : (0 : Int) ≤ (j : Int) := by omega
         by_cases g0 : kd = 0
         ·subst g0
          have HTa := Hd (show adA cl (0, nb0, fd, ud, ps0, body) = (countD cl nb0 ps0.length).or (adE cl body) by unfold adA; rw [if_pos rfl])
          have HCn := Hd (fun (V : World) (hbv : Below wr.heap.size wr V) => acount_any b (ST3.or (firstF (adA cl) (al.take j))) cl ac cc nb0 (ps0.length : Int) V (HR.out.1.later hbv) ((HO.out.1.apart HR.out.2.1).apartB hbv))
          go_wp2_with fail
          go_region_held3 (fun W' => W'.cell? ⟨w.heap.size, 7, none⟩ = some (.slice (some ⟨g1, o1, none⟩) al.length ca) ∧ W'.cell? ⟨g1, o1 + j * 13 + 1, none⟩ = some (.string (tx nb0)) ∧ W'.cell? ⟨g1, o1 + j * 13 + 4, none⟩ = some (.slice aq9 ps0.length cq9)) (first | exact ⟨v7, l1, l4⟩ | exact ⟨x7, p1, p4⟩ | go_keep) (first
            | (go_at_call 74
               refine (HCn.out _ ?hb).mono ?_
               case hb => exact Br.drew
               rintro e w5 ⟨rfl, hs5, hg5a⟩
               have hg5 : wr.grownBy w5 (some b) := Gt (grown_of (b := b) Br.drew) hg5a
               have v7 := hg5.cell x7 (by simpa using hne)
               have l1 := hg5.cell p1 (by simpa using hgb)
               have l4 := hg5.cell p4 (by simpa using hgb)))
          have H5 := Hd (Ai hs5 (Ai (Gt HR.out.2.1 hg5) (HR.out.2.2.grown hg5 hne)))
          have l5 := hg5.cell p5 (by simpa using hgb)
          have l6 := hg5.cell p6 (by simpa using hgb)
          have l7 := hg5.cell p7 (by simpa using hgb)
          have l8 := hg5.cell p8 (by simpa using hgb)
          have l9 := hg5.cell p9 (by simpa using hgb)
          have l10 := hg5.cell p10 (by simpa using hgb)
          have l11 := hg5.cell p11 (by simpa using hgb)
          have l12 := hg5.cell p12 (by simpa using hgb)
          have HXp := Hd (hP body b ((ST3.or (firstF (adA cl) (al.take j))).or (countD cl nb0 ps0.length)) cl ac cc w5 k9 nm9 f9 u9 ap9 np9 cp9 ak9 nk9 ck9 ab9 nb9 cb9 aa9 na9 ca9 HZj.out H5.out.1 (HO.out.1.apart H5.out.2.1) (HE.out.apart hg5))
          clear hs5 hg5 hg5a l1 l4 HCn p0 p1 p2 p3 p4 p5 p6 p7 p8 p9 p10 p11 p12 x4 x5 x6 x7
          go_wp2_with fail
          refine HXp.out.mono ?_
          rintro e w6 ⟨rfl, hs6, hg6⟩
          have H6 := Hd (Ai hs6 hg6)
          clear hs6 hg6 HXp v7 l5 l6 l7 l8 l9 l10 l11 l12
          go_wp2_with fail
          refine ⟨⟨j + 1, by omega, by go_num, ?_, Gt H5.out.2.1 H6.out.2, H5.out.2.2.grown H6.out.2 hne⟩, by simp [RowKit.intOf]; omega⟩
          rw [HT.out, HTa.out, ← or_assoc_f, ← or_assoc_f]
          exact H6.out.1
         ·have f0 : (kd == 0) = false := by simpa using g0
          have HTa := Hd (show adA cl (kd, nb0, fd, ud, ps0, body) = adE cl body by unfold adA; rw [if_neg g0]; rfl)
          have HXp := Hd (hP body b (ST3.or (firstF (adA cl) (al.take j))) cl ac cc wr k9 nm9 f9 u9 ap9 np9 cp9 ak9 nk9 ck9 ab9 nb9 cb9 aa9 na9 ca9 HZj.out HR.out.1 (HO.out.1.apart HR.out.2.1) HE.out)
          clear g0
          go_wp2_with fail
          refine HXp.out.mono ?_
          rintro e w6 ⟨rfl, hs6, hg6⟩
          have H6 := Hd (Ai hs6 hg6)
          clear hs6 hg6 HXp f0 p0 p1 p2 p3 p4 p5 p6 p7 p8 p9 p10 p11 p12 x4 x5 x6 x7
          go_wp2_with fail
          refine ⟨⟨j + 1, by omega, by go_num, ?_, Gt HR.out.2.1 H6.out.2, HR.out.2.2.grown H6.out.2 hne⟩, by simp [RowKit.intOf]; omega⟩
          rw [HT.out, HTa.out, ← or_assoc_f]
          exact H6.out.1
        ·obtain rfl : j = al.length := by omega
         have hs2 := HR.out.1
         rw [List.take_length] at hs2
         have HR4 := Hd (Ai hs2 HR.out.2.1)
         clear hs2
         go_wp2_with fail
         go_end0
         refine ⟨rfl, ?_, HR4.out.2⟩
         rw [HM.out, ← or_assoc_f, ← or_assoc_f, ← or_assoc_f, ← HST.out, ← HST2.out, ← HST3.out]
         exact HR4.out.1
  by_cases g5 : k = 5
  ·have hH : adH cl k nm ps ks.length = oneF (decide ((ks.length : Int) ≠ takesL nm)) 11 nm := by unfold adH; rw [if_neg g2, if_pos g5]
   rw [hH] at HM
   clear hH g2
   subst g5
   have hx := (Below.refl w.heap.size w).alloc Nr (.cells #[.int .i64 5, .string (tx nm), .bool f, .int .u64 u, .slice ap ps.length cp, .slice ak ks.length ck, .slice ab bl.length cb, .slice aa al.length ca] 57)
   have hB := BoxW.alloc w #[.int .i64 5, .string (tx nm), .bool f, .int .u64 u, .slice ap ps.length cp, .slice ak ks.length ck, .slice ab bl.length cb, .slice aa al.length ca] 57
   have HX := Hd (Ai (hS.later hx) (Ai (grown_of (b := b) hx) hB))
   clear hS hx hB
   have f2 : ((5 : Int) == 2) = false := rfl
   have HTk := Hd (fun W => dtakes_any nm W)
   by_cases g : ((ks.length : Int) ≠ takesL nm)
   ·have g' : ((ks.length : Int) != takesL nm) = true := by simpa using g
    have HH := Hd (show oneF (decide ((ks.length : Int) ≠ takesL nm)) 11 nm = some (11, nm) by unfold oneF; rw [if_pos (decide_eq_true g)])
    rw [HH.out] at HM
    clear g HH
    go_enter Tryz.func39, Tryz.ntmps39
    go_upto_region 5 with fail
    generalize (w.alloc (.cells #[.int .i64 5, .string (tx nm), .bool f, .int .u64 u, .slice ap ps.length cp, .slice ak ks.length ck, .slice ab bl.length cb, .slice aa al.length ca] 57)) = W at *
    have d1 : W.cell? ⟨w.heap.size, 1, none⟩ = some (.string (tx nm)) := HX.out.2.2.1 1 _ rfl
    have d5 : W.cell? ⟨w.heap.size, 5, none⟩ = some (.slice ak ks.length ck) := HX.out.2.2.1 5 _ rfl
    go_region_held3 (fun W' => W'.cell? ⟨w.heap.size, 1, none⟩ = some (.string (tx nm)) ∧ W'.cell? ⟨w.heap.size, 5, none⟩ = some (.slice ak ks.length ck)) (first | exact ⟨q1, q5⟩ | exact ⟨d1, d5⟩ | go_keep) (first
      | (go_at_call 6
         refine (HTk.out _).mono ?_
         rintro e w2 ⟨rfl, hb2a⟩
         have hb2 : Below W.heap.size W w2 := onB' (Below.refl W.heap.size W).drew hb2a
         have q1 := later' hb2 d1
         have q5 := later' hb2 d5))
    have H0 := Hd (Ai (HX.out.1.later hb2) (Ai (Gt HX.out.2.1 (grown_of (b := b) hb2)) (HX.out.2.2.below hb2)))
    clear hb2 hb2a d1 d5 q5 HTk
    have HC := Hd (afault_any b st _ 11 (by decide) nm w2 H0.out.1)
    go_wp2_with fail
    refine HC.out.mono ?_
    rintro e w3 ⟨rfl, hs3, hg3⟩
    have H3 := Hd (Ai hs3 (Ai (Gt H0.out.2.1 hg3) (H0.out.2.2.grown hg3 hne)))
    clear hs3 hg3 HC q1
    obtain ⟨ST, hST⟩ : ∃ ST, ST = st.or (some (11, nm)) := ⟨_, rfl⟩
    rw [← hST] at H3
    have HST := Hd hST
    clear hST
    have y4 := H3.out.2.2.1 4 _ rfl
    have y5 := H3.out.2.2.1 5 _ rfl
    have y6 := H3.out.2.2.1 6 _ rfl
    have y7 := H3.out.2.2.1 7 _ rfl
    go_wp2_with fail
    try clear g'
    try clear fz
    go_loopw [4] (fun s wr => ∃ j : Nat, j ≤ bl.length ∧ s = .int .i64 j ∧ SAt wr b (ST.or (firstF (adB cl) (bl.take j))) (.slice ac cl.length cc) ∧ w.grownBy wr (some b) ∧ BoxW wr w.heap.size [.int .i64 5, .string (tx nm), .bool f, .int .u64 u, .slice ap ps.length cp, .slice ak ks.length ck, .slice ab bl.length cb, .slice aa al.length ca]) (fun s _ => bl.length - (RowKit.intOf s).toNat)
    case atStart => exact ⟨0, Nat.zero_le _, rfl, by rw [List.take_zero, show firstF (adB cl) [] = none from rfl, or_nil_l]; exact H3.out.1, H3.out.2.1, H3.out.2.2⟩
    case round =>
     obtain ⟨j, hj, rfl, hs1, hg1, hb1⟩ := hrel
     have HR := Hd (Ai hs1 (Ai hg1 hb1))
     have x4 := hb1.1 4 _ rfl
     have x5 := hb1.1 5 _ rfl
     have x6 := hb1.1 6 _ rfl
     have x7 := hb1.1 7 _ rfl
     clear hs1 hg1 hb1 y4 y5 y6 y7
     by_cases gj : j < bl.length
     ·have gj' : (j : Int) < (bl.length : Int) := by omega
      obtain ⟨aq9, cq9, k9, nm9, f9, u9, ap9, np9, cp9, ak9, nk9, ck9, ab9, nb9, cb9, aa9, na9, ca9, hQ, hE, hcs⟩ := HO.out.2.2.1.cells j gj
      obtain ⟨g1, o1, ea1, k1, m1', hgb, ht1⟩ := (HO.out.2.1.apart HR.out.2.1).at (by omega)
      subst ea1
      have HPx := Hd (fun i v h => ht1 _ _ (hcs i v h))
      have HT := Hd (show firstF (adB cl) (bl.take (j + 1)) = (firstF (adB cl) (bl.take j)).or (adB cl bl[j]) by rw [List.take_succ_eq_append_getElem gj, firstF_snoc])
      have HXp := Hd (abind_any n hP b (ST.or (firstF (adB cl) (bl.take j))) cl ac cc bl[j].1 bl[j].2.1 bl[j].2.2 aq9 cq9 k9 nm9 f9 u9 ap9 np9 cp9 ak9 nk9 ck9 ab9 nb9 cb9 aa9 na9 ca9 wr (HZ.out.1 _ (List.getElem_mem gj)) hQ.cap HR.out.1 (HO.out.1.apart HR.out.2.1) (hE.apart HR.out.2.1))
      clear ht1 hcs hE hQ
      obtain ⟨bx, hbx⟩ : ∃ bx, bx = bl[j] := ⟨_, rfl⟩
      rw [← hbx] at HXp HT HPx
      clear hbx
      obtain ⟨nb0, ps0, body⟩ := bx
      replace HPx := Hd (show ∀ i v, [.string (tx nb0), .slice aq9 ps0.length cq9, .int .i64 k9, .string (tx nm9), .bool f9, .int .u64 u9, .slice ap9 np9 cp9, .slice ak9 nk9 ck9, .slice ab9 nb9 cb9, .slice aa9 na9 ca9][i]? = some v → wr.cell? ⟨g1, o1 + (j * 10 + i), none⟩ = some v from HPx.out)
      replace HXp := Hd (show Calls Tryz.prog 19 #[.pointer (some ⟨b, 0, none⟩), .agg #[.string (tx nb0), .slice aq9 ps0.length cq9, .int .i64 k9, .string (tx nm9), .bool f9, .int .u64 u9, .slice ap9 np9 cp9, .slice ak9 nk9 ck9, .slice ab9 nb9 cb9, .slice aa9 na9 ca9]] wr fun e w' => e = .returned (.tuple #[]) ∧ SAt w' b ((ST.or (firstF (adB cl) (bl.take j))).or (adB cl (nb0, ps0, body))) (.slice ac cl.length cc) ∧ wr.grownBy w' (some b) from HXp.out)
      have p0 : wr.cell? ⟨g1, o1 + j * 10, none⟩ = some (.string (tx nb0)) := HPx.out 0 _ rfl
      have p1 := pa (HPx.out 1 _ rfl)
      have p2 := pa (HPx.out 2 _ rfl)
      have p3 := pa (HPx.out 3 _ rfl)
      have p4 := pa (HPx.out 4 _ rfl)
      have p5 := pa (HPx.out 5 _ rfl)
      have p6 := pa (HPx.out 6 _ rfl)
      have p7 := pa (HPx.out 7 _ rfl)
      have p8 := pa (HPx.out 8 _ rfl)
      have p9 := pa (HPx.out 9 _ rfl)
      have ej : IntKind.i64.wrap ((j : Int) + 1) = (j : Int) + 1 := by rw [IntKind.wrap_i64]; omega
      have b0 : (0 : Int) ≤ (j : Int) := by omega
      go_wp2_with fail
      refine HXp.out.mono ?_
      rintro e w6 ⟨rfl, hs6, hg6⟩
      have H6 := Hd (Ai hs6 hg6)
      clear hs6 hg6 HXp p0 p1 p2 p3 p4 p5 p6 p7 p8 p9 x4 x5 x6 x7
      go_wp2_with fail
      refine ⟨⟨j + 1, by omega, by go_num, ?_, Gt HR.out.2.1 H6.out.2, HR.out.2.2.grown H6.out.2 hne⟩, by simp [RowKit.intOf]; omega⟩
      rw [HT.out, ← or_assoc_f]
      exact H6.out.1
     ·obtain rfl : j = bl.length := by omega
      have hs2 := HR.out.1
      rw [List.take_length] at hs2
      have HR2 := Hd (Ai hs2 HR.out.2)
      clear hs2 HR
      generalize wr = wA at *
      obtain ⟨ST2, hST2⟩ : ∃ ST2, ST2 = ST.or (firstF (adB cl) bl) := ⟨_, rfl⟩
      rw [← hST2] at HR2
      have HST2 := Hd hST2
      clear hST2
      go_wp2_with fail
      go_loopw [5] (fun s wr => ∃ j : Nat, j ≤ ks.length ∧ s = .int .i64 j ∧ SAt wr b (ST2.or (firstF (adE cl) (ks.take j))) (.slice ac cl.length cc) ∧ w.grownBy wr (some b) ∧ BoxW wr w.heap.size [.int .i64 5, .string (tx nm), .bool f, .int .u64 u, .slice ap ps.length cp, .slice ak ks.length ck, .slice ab bl.length cb, .slice aa al.length ca]) (fun s _ => ks.length - (RowKit.intOf s).toNat)
      case atStart => exact ⟨0, Nat.zero_le _, rfl, by rw [List.take_zero, show firstF (adE cl) [] = none from rfl, or_nil_l]; exact HR2.out.1, HR2.out.2.1, HR2.out.2.2⟩
      case round =>
       obtain ⟨j, hj, rfl, hs1, hg1, hb1⟩ := hrel
       have HR := Hd (Ai hs1 (Ai hg1 hb1))
       clear x4 x5 x6 x7
       have x4 := hb1.1 4 _ rfl
       have x5 := hb1.1 5 _ rfl
       have x6 := hb1.1 6 _ rfl
       have x7 := hb1.1 7 _ rfl
       clear hs1 hg1 hb1
       by_cases gj : j < ks.length
       ·have gj' : (j : Int) < (ks.length : Int) := by omega
        obtain ⟨k9, nm9, f9, u9, ap9, np9, cp9, ak9, nk9, ck9, ab9, nb9, cb9, aa9, na9, ca9, hE, hcs⟩ := HO.out.2.2.2.2.1.cells j gj
        obtain ⟨g1, o1, ea1, k1, m1', hgb, ht1⟩ := (HO.out.2.2.2.1.apart HR.out.2.1).at (by omega)
        subst ea1
        have HPx := Hd (fun i v h => ht1 _ _ (hcs i v h))
        have HT := Hd (show firstF (adE cl) (ks.take (j + 1)) = (firstF (adE cl) (ks.take j)).or (adE cl ks[j]) by rw [List.take_succ_eq_append_getElem gj, firstF_snoc])
        have HXp := Hd (hP ks[j] b (ST2.or (firstF (adE cl) (ks.take j))) cl ac cc wr k9 nm9 f9 u9 ap9 np9 cp9 ak9 nk9 ck9 ab9 nb9 cb9 aa9 na9 ca9 (HZ.out.2.1 _ (List.getElem_mem gj)) HR.out.1 (HO.out.1.apart HR.out.2.1) (hE.apart HR.out.2.1))
        clear ht1 hcs hE
        generalize ks[j] = tk at *
        have p0 : wr.cell? ⟨g1, o1 + j * 8, none⟩ = some (.int .i64 k9) := HPx.out 0 _ rfl
        have p1 := pa (HPx.out 1 _ rfl)
        have p2 := pa (HPx.out 2 _ rfl)
        have p3 := pa (HPx.out 3 _ rfl)
        have p4 := pa (HPx.out 4 _ rfl)
        have p5 := pa (HPx.out 5 _ rfl)
        have p6 := pa (HPx.out 6 _ rfl)
        have p7 := pa (HPx.out 7 _ rfl)
        have ej : IntKind.i64.wrap ((j : Int) + 1) = (j : Int) + 1 := by rw [IntKind.wrap_i64]; omega
        have b0 : (0 : Int) ≤ (j : Int) := by omega
        go_wp2_with fail
        refine HXp.out.mono ?_
        rintro e w6 ⟨rfl, hs6, hg6⟩
        have H6 := Hd (Ai hs6 hg6)
        clear hs6 hg6 HXp p0 p1 p2 p3 p4 p5 p6 p7 x4 x5 x6 x7
        go_wp2_with fail
        refine ⟨⟨j + 1, by omega, by go_num, ?_, Gt HR.out.2.1 H6.out.2, HR.out.2.2.grown H6.out.2 hne⟩, by simp [RowKit.intOf]; omega⟩
        rw [HT.out, ← or_assoc_f]
        exact H6.out.1
       ·obtain rfl : j = ks.length := by omega
        have hs2 := HR.out.1
        rw [List.take_length] at hs2
        have HR3 := Hd (Ai hs2 HR.out.2)
        clear hs2 HR HR2
        generalize wr = wB at *
        obtain ⟨ST3, hST3⟩ : ∃ ST3, ST3 = ST2.or (firstF (adE cl) ks) := ⟨_, rfl⟩
        rw [← hST3] at HR3
        have HST3 := Hd hST3
        clear hST3
        go_wp2_with fail
        go_loopw [6] (fun s wr => ∃ j : Nat, j ≤ al.length ∧ s = .int .i64 j ∧ SAt wr b (ST3.or (firstF (adA cl) (al.take j))) (.slice ac cl.length cc) ∧ w.grownBy wr (some b) ∧ BoxW wr w.heap.size [.int .i64 5, .string (tx nm), .bool f, .int .u64 u, .slice ap ps.length cp, .slice ak ks.length ck, .slice ab bl.length cb, .slice aa al.length ca]) (fun s _ => al.length - (RowKit.intOf s).toNat)
        case atStart => exact ⟨0, Nat.zero_le _, rfl, by rw [List.take_zero, show firstF (adA cl) [] = none from rfl, or_nil_l]; exact HR3.out.1, HR3.out.2.1, HR3.out.2.2⟩
        case round =>
         obtain ⟨j, hj, rfl, hs1, hg1, hb1⟩ := hrel
         have HR := Hd (Ai hs1 (Ai hg1 hb1))
         clear x4 x5 x6 x7
         have x4 := hb1.1 4 _ rfl
         have x5 := hb1.1 5 _ rfl
         have x6 := hb1.1 6 _ rfl
         have x7 := hb1.1 7 _ rfl
         clear hs1 hg1 hb1
         by_cases gj : j < al.length
         ·have gj' : (j : Int) < (al.length : Int) := by omega
          obtain ⟨aq9, cq9, k9, nm9, f9, u9, ap9, np9, cp9, ak9, nk9, ck9, ab9, nb9, cb9, aa9, na9, ca9, hQ, hE, hcs⟩ := HO.out.2.2.2.2.2.2.cells j gj
          obtain ⟨g1, o1, ea1, k1, m1', hgb, ht1⟩ := (HO.out.2.2.2.2.2.1.apart HR.out.2.1).at (by omega)
          subst ea1
          have HPx := Hd (fun i v h => ht1 _ _ (hcs i v h))
          have HT := Hd (show firstF (adA cl) (al.take (j + 1)) = (firstF (adA cl) (al.take j)).or (adA cl al[j]) by rw [List.take_succ_eq_append_getElem gj, firstF_snoc])
          have HZj := Hd (HZ.out.2.2 _ (List.getElem_mem gj))
          have HE := Hd (hE.apart HR.out.2.1)
          clear ht1 hcs hE
          obtain ⟨bx, hbx⟩ : ∃ bx, bx = al[j] := ⟨_, rfl⟩
          rw [← hbx] at HZj HT HPx HE
          clear hQ hbx
          obtain ⟨kd, nb0, fd, ud, ps0, body⟩ := bx
          replace HPx := Hd (show ∀ i v, [.int .i64 kd, .string (tx nb0), .bool fd, .int .u64 ud, .slice aq9 ps0.length cq9, .int .i64 k9, .string (tx nm9), .bool f9, .int .u64 u9, .slice ap9 np9 cp9, .slice ak9 nk9 ck9, .slice ab9 nb9 cb9, .slice aa9 na9 ca9][i]? = some v → wr.cell? ⟨g1, o1 + (j * 13 + i), none⟩ = some v from HPx.out)
          replace HE := Hd (show ExAt wr (Apart b) body [.int .i64 k9, .string (tx nm9), .bool f9, .int .u64 u9, .slice ap9 np9 cp9, .slice ak9 nk9 ck9, .slice ab9 nb9 cb9, .slice aa9 na9 ca9] from HE.out)
          replace HZj := Hd (show SizeOf.sizeOf body ≤ n from HZj.out)
          have p0 : wr.cell? ⟨g1, o1 + j * 13, none⟩ = some (.int .i64 kd) := HPx.out 0 _ rfl
          have p1 := pa (HPx.out 1 _ rfl)
          have p2 := pa (HPx.out 2 _ rfl)
          have p3 := pa (HPx.out 3 _ rfl)
          have p4 := pa (HPx.out 4 _ rfl)
          have p5 := pa (HPx.out 5 _ rfl)
          have p6 := pa (HPx.out 6 _ rfl)
          have p7 := pa (HPx.out 7 _ rfl)
          have p8 := pa (HPx.out 8 _ rfl)
          have p9 := pa (HPx.out 9 _ rfl)
          have p10 := pa (HPx.out 10 _ rfl)
          have p11 := pa (HPx.out 11 _ rfl)
          have p12 := pa (HPx.out 12 _ rfl)
          have ej : IntKind.i64.wrap ((j : Int) + 1) = (j : Int) + 1 := by rw [IntKind.wrap_i64]; omega
          have b0 : (0 : Int) ≤ (j : Int) := by omega
          by_cases g0 : kd = 0
          ·subst g0
           have HTa := Hd (show adA cl (0, nb0, fd, ud, ps0, body) = (countD cl nb0 ps0.length).or (adE cl body) by unfold adA; rw [if_pos rfl])
           have HCn := Hd (fun (V : World) (hbv : Below wr.heap.size wr V) => acount_any b (ST3.or (firstF (adA cl) (al.take j))) cl ac cc nb0 (ps0.length : Int) V (HR.out.1.later hbv) ((HO.out.1.apart HR.out.2.1).apartB hbv))
           go_wp2_with fail
           go_region_held3 (fun W' => W'.cell? ⟨w.heap.size, 7, none⟩ = some (.slice (some ⟨g1, o1, none⟩) al.length ca) ∧ W'.cell? ⟨g1, o1 + j * 13 + 1, none⟩ = some (.string (tx nb0)) ∧ W'.cell? ⟨g1, o1 + j * 13 + 4, none⟩ = some (.slice aq9 ps0.length cq9)) (first | exact ⟨v7, l1, l4⟩ | exact ⟨x7, p1, p4⟩ | go_keep) (first
             | (go_at_call 74
                refine (HCn.out _ ?hb).mono ?_
                case hb => exact Br.drew
                rintro e w5 ⟨rfl, hs5, hg5a⟩
                have hg5 : wr.grownBy w5 (some b) := Gt (grown_of (b := b) Br.drew) hg5a
                have v7 := hg5.cell x7 (by simpa using hne)
                have l1 := hg5.cell p1 (by simpa using hgb)
                have l4 := hg5.cell p4 (by simpa using hgb)))
           have H5 := Hd (Ai hs5 (Ai (Gt HR.out.2.1 hg5) (HR.out.2.2.grown hg5 hne)))
           have l5 := hg5.cell p5 (by simpa using hgb)
           have l6 := hg5.cell p6 (by simpa using hgb)
           have l7 := hg5.cell p7 (by simpa using hgb)
           have l8 := hg5.cell p8 (by simpa using hgb)
           have l9 := hg5.cell p9 (by simpa using hgb)
           have l10 := hg5.cell p10 (by simpa using hgb)
           have l11 := hg5.cell p11 (by simpa using hgb)
           have l12 := hg5.cell p12 (by simpa using hgb)
           have HXp := Hd (hP body b ((ST3.or (firstF (adA cl) (al.take j))).or (countD cl nb0 ps0.length)) cl ac cc w5 k9 nm9 f9 u9 ap9 np9 cp9 ak9 nk9 ck9 ab9 nb9 cb9 aa9 na9 ca9 HZj.out H5.out.1 (HO.out.1.apart H5.out.2.1) (HE.out.apart hg5))
           clear hs5 hg5 hg5a l1 l4 HCn p0 p1 p2 p3 p4 p5 p6 p7 p8 p9 p10 p11 p12 x4 x5 x6 x7
           go_wp2_with fail
           refine HXp.out.mono ?_
           rintro e w6 ⟨rfl, hs6, hg6⟩
           have H6 := Hd (Ai hs6 hg6)
           clear hs6 hg6 HXp v7 l5 l6 l7 l8 l9 l10 l11 l12
           go_wp2_with fail
           refine ⟨⟨j + 1, by omega, by go_num, ?_, Gt H5.out.2.1 H6.out.2, H5.out.2.2.grown H6.out.2 hne⟩, by simp [RowKit.intOf]; omega⟩
           rw [HT.out, HTa.out, ← or_assoc_f, ← or_assoc_f]
           exact H6.out.1
          ·have f0 : (kd == 0) = false := by simpa using g0
           have HTa := Hd (show adA cl (kd, nb0, fd, ud, ps0, body) = adE cl body by unfold adA; rw [if_neg g0]; rfl)
           have HXp := Hd (hP body b (ST3.or (firstF (adA cl) (al.take j))) cl ac cc wr k9 nm9 f9 u9 ap9 np9 cp9 ak9 nk9 ck9 ab9 nb9 cb9 aa9 na9 ca9 HZj.out HR.out.1 (HO.out.1.apart HR.out.2.1) HE.out)
           clear g0
           go_wp2_with fail
           refine HXp.out.mono ?_
           rintro e w6 ⟨rfl, hs6, hg6⟩
           have H6 := Hd (Ai hs6 hg6)
           clear hs6 hg6 HXp f0 p0 p1 p2 p3 p4 p5 p6 p7 p8 p9 p10 p11 p12 x4 x5 x6 x7
           go_wp2_with fail
           refine ⟨⟨j + 1, by omega, by go_num, ?_, Gt HR.out.2.1 H6.out.2, HR.out.2.2.grown H6.out.2 hne⟩, by simp [RowKit.intOf]; omega⟩
           rw [HT.out, HTa.out, ← or_assoc_f]
           exact H6.out.1
         ·obtain rfl : j = al.length := by omega
          have hs2 := HR.out.1
          rw [List.take_length] at hs2
          have HR4 := Hd (Ai hs2 HR.out.2.1)
          clear hs2
          go_wp2_with fail
          go_end0
          refine ⟨rfl, ?_, HR4.out.2⟩
          rw [HM.out, ← or_assoc_f, ← or_assoc_f, ← or_assoc_f, ← HST.out, ← HST2.out, ← HST3.out]
          exact HR4.out.1
   ·have hq : takesL nm = (ks.length : Int) := by omega
    have HH := Hd (show oneF (decide ((ks.length : Int) ≠ takesL nm)) 11 nm = none by unfold oneF; rw [if_neg (by simpa using g)])
    rw [HH.out] at HM
    rw [hq] at HTk
    have fz : ((ks.length : Int) != (ks.length : Int)) = false := by simp
    clear g HH hq
    go_enter Tryz.func39, Tryz.ntmps39
    go_upto_region 5 with fail
    generalize (w.alloc (.cells #[.int .i64 5, .string (tx nm), .bool f, .int .u64 u, .slice ap ps.length cp, .slice ak ks.length ck, .slice ab bl.length cb, .slice aa al.length ca] 57)) = W at *
    have d1 : W.cell? ⟨w.heap.size, 1, none⟩ = some (.string (tx nm)) := HX.out.2.2.1 1 _ rfl
    have d5 : W.cell? ⟨w.heap.size, 5, none⟩ = some (.slice ak ks.length ck) := HX.out.2.2.1 5 _ rfl
    go_region_held3 (fun W' => W'.cell? ⟨w.heap.size, 1, none⟩ = some (.string (tx nm)) ∧ W'.cell? ⟨w.heap.size, 5, none⟩ = some (.slice ak ks.length ck)) (first | exact ⟨q1, q5⟩ | exact ⟨d1, d5⟩ | go_keep) (first
      | (go_at_call 6
         refine (HTk.out _).mono ?_
         rintro e w2 ⟨rfl, hb2a⟩
         have hb2 : Below W.heap.size W w2 := onB' (Below.refl W.heap.size W).drew hb2a
         have q1 := later' hb2 d1
         have q5 := later' hb2 d5))
    have H0 := Hd (Ai (HX.out.1.later hb2) (Ai (Gt HX.out.2.1 (grown_of (b := b) hb2)) (HX.out.2.2.below hb2)))
    clear hb2 hb2a d1 d5 q5 HTk
    clear q1
    have H3 := Hd (show SAt w2 b (st.or none) (.slice ac cl.length cc) ∧ w.grownBy w2 (some b) ∧ BoxW w2 w.heap.size [.int .i64 5, .string (tx nm), .bool f, .int .u64 u, .slice ap ps.length cp, .slice ak ks.length ck, .slice ab bl.length cb, .slice aa al.length ca] by rw [or_nil_l]; exact H0.out)
    obtain ⟨ST, hST⟩ : ∃ ST, ST = st.or none := ⟨_, rfl⟩
    rw [← hST] at H3
    have HST := Hd hST
    clear hST
    have y4 := H3.out.2.2.1 4 _ rfl
    have y5 := H3.out.2.2.1 5 _ rfl
    have y6 := H3.out.2.2.1 6 _ rfl
    have y7 := H3.out.2.2.1 7 _ rfl
    go_wp2_with fail
    try clear g'
    try clear fz
    go_loopw [4] (fun s wr => ∃ j : Nat, j ≤ bl.length ∧ s = .int .i64 j ∧ SAt wr b (ST.or (firstF (adB cl) (bl.take j))) (.slice ac cl.length cc) ∧ w.grownBy wr (some b) ∧ BoxW wr w.heap.size [.int .i64 5, .string (tx nm), .bool f, .int .u64 u, .slice ap ps.length cp, .slice ak ks.length ck, .slice ab bl.length cb, .slice aa al.length ca]) (fun s _ => bl.length - (RowKit.intOf s).toNat)
    case atStart => exact ⟨0, Nat.zero_le _, rfl, by rw [List.take_zero, show firstF (adB cl) [] = none from rfl, or_nil_l]; exact H3.out.1, H3.out.2.1, H3.out.2.2⟩
    case round =>
     obtain ⟨j, hj, rfl, hs1, hg1, hb1⟩ := hrel
     have HR := Hd (Ai hs1 (Ai hg1 hb1))
     have x4 := hb1.1 4 _ rfl
     have x5 := hb1.1 5 _ rfl
     have x6 := hb1.1 6 _ rfl
     have x7 := hb1.1 7 _ rfl
     clear hs1 hg1 hb1 y4 y5 y6 y7
     by_cases gj : j < bl.length
     ·have gj' : (j : Int) < (bl.length : Int) := by omega
      obtain ⟨aq9, cq9, k9, nm9, f9, u9, ap9, np9, cp9, ak9, nk9, ck9, ab9, nb9, cb9, aa9, na9, ca9, hQ, hE, hcs⟩ := HO.out.2.2.1.cells j gj
      obtain ⟨g1, o1, ea1, k1, m1', hgb, ht1⟩ := (HO.out.2.1.apart HR.out.2.1).at (by omega)
      subst ea1
      have HPx := Hd (fun i v h => ht1 _ _ (hcs i v h))
      have HT := Hd (show firstF (adB cl) (bl.take (j + 1)) = (firstF (adB cl) (bl.take j)).or (adB cl bl[j]) by rw [List.take_succ_eq_append_getElem gj, firstF_snoc])
      have HXp := Hd (abind_any n hP b (ST.or (firstF (adB cl) (bl.take j))) cl ac cc bl[j].1 bl[j].2.1 bl[j].2.2 aq9 cq9 k9 nm9 f9 u9 ap9 np9 cp9 ak9 nk9 ck9 ab9 nb9 cb9 aa9 na9 ca9 wr (HZ.out.1 _ (List.getElem_mem gj)) hQ.cap HR.out.1 (HO.out.1.apart HR.out.2.1) (hE.apart HR.out.2.1))
      clear ht1 hcs hE hQ
      obtain ⟨bx, hbx⟩ : ∃ bx, bx = bl[j] := ⟨_, rfl⟩
      rw [← hbx] at HXp HT HPx
      clear hbx
      obtain ⟨nb0, ps0, body⟩ := bx
      replace HPx := Hd (show ∀ i v, [.string (tx nb0), .slice aq9 ps0.length cq9, .int .i64 k9, .string (tx nm9), .bool f9, .int .u64 u9, .slice ap9 np9 cp9, .slice ak9 nk9 ck9, .slice ab9 nb9 cb9, .slice aa9 na9 ca9][i]? = some v → wr.cell? ⟨g1, o1 + (j * 10 + i), none⟩ = some v from HPx.out)
      replace HXp := Hd (show Calls Tryz.prog 19 #[.pointer (some ⟨b, 0, none⟩), .agg #[.string (tx nb0), .slice aq9 ps0.length cq9, .int .i64 k9, .string (tx nm9), .bool f9, .int .u64 u9, .slice ap9 np9 cp9, .slice ak9 nk9 ck9, .slice ab9 nb9 cb9, .slice aa9 na9 ca9]] wr fun e w' => e = .returned (.tuple #[]) ∧ SAt w' b ((ST.or (firstF (adB cl) (bl.take j))).or (adB cl (nb0, ps0, body))) (.slice ac cl.length cc) ∧ wr.grownBy w' (some b) from HXp.out)
      have p0 : wr.cell? ⟨g1, o1 + j * 10, none⟩ = some (.string (tx nb0)) := HPx.out 0 _ rfl
      have p1 := pa (HPx.out 1 _ rfl)
      have p2 := pa (HPx.out 2 _ rfl)
      have p3 := pa (HPx.out 3 _ rfl)
      have p4 := pa (HPx.out 4 _ rfl)
      have p5 := pa (HPx.out 5 _ rfl)
      have p6 := pa (HPx.out 6 _ rfl)
      have p7 := pa (HPx.out 7 _ rfl)
      have p8 := pa (HPx.out 8 _ rfl)
      have p9 := pa (HPx.out 9 _ rfl)
      have ej : IntKind.i64.wrap ((j : Int) + 1) = (j : Int) + 1 := by rw [IntKind.wrap_i64]; omega
      have b0 : (0 : Int) ≤ (j : Int) := by omega
      go_wp2_with fail
      refine HXp.out.mono ?_
      rintro e w6 ⟨rfl, hs6, hg6⟩
      have H6 := Hd (Ai hs6 hg6)
      clear hs6 hg6 HXp p0 p1 p2 p3 p4 p5 p6 p7 p8 p9 x4 x5 x6 x7
      go_wp2_with fail
      refine ⟨⟨j + 1, by omega, by go_num, ?_, Gt HR.out.2.1 H6.out.2, HR.out.2.2.grown H6.out.2 hne⟩, by simp [RowKit.intOf]; omega⟩
      rw [HT.out, ← or_assoc_f]
      exact H6.out.1
     ·obtain rfl : j = bl.length := by omega
      have hs2 := HR.out.1
      rw [List.take_length] at hs2
      have HR2 := Hd (Ai hs2 HR.out.2)
      clear hs2 HR
      generalize wr = wA at *
      obtain ⟨ST2, hST2⟩ : ∃ ST2, ST2 = ST.or (firstF (adB cl) bl) := ⟨_, rfl⟩
      rw [← hST2] at HR2
      have HST2 := Hd hST2
      clear hST2
      go_wp2_with fail
      go_loopw [5] (fun s wr => ∃ j : Nat, j ≤ ks.length ∧ s = .int .i64 j ∧ SAt wr b (ST2.or (firstF (adE cl) (ks.take j))) (.slice ac cl.length cc) ∧ w.grownBy wr (some b) ∧ BoxW wr w.heap.size [.int .i64 5, .string (tx nm), .bool f, .int .u64 u, .slice ap ps.length cp, .slice ak ks.length ck, .slice ab bl.length cb, .slice aa al.length ca]) (fun s _ => ks.length - (RowKit.intOf s).toNat)
      case atStart => exact ⟨0, Nat.zero_le _, rfl, by rw [List.take_zero, show firstF (adE cl) [] = none from rfl, or_nil_l]; exact HR2.out.1, HR2.out.2.1, HR2.out.2.2⟩
      case round =>
       obtain ⟨j, hj, rfl, hs1, hg1, hb1⟩ := hrel
       have HR := Hd (Ai hs1 (Ai hg1 hb1))
       clear x4 x5 x6 x7
       have x4 := hb1.1 4 _ rfl
       have x5 := hb1.1 5 _ rfl
       have x6 := hb1.1 6 _ rfl
       have x7 := hb1.1 7 _ rfl
       clear hs1 hg1 hb1
       by_cases gj : j < ks.length
       ·have gj' : (j : Int) < (ks.length : Int) := by omega
        obtain ⟨k9, nm9, f9, u9, ap9, np9, cp9, ak9, nk9, ck9, ab9, nb9, cb9, aa9, na9, ca9, hE, hcs⟩ := HO.out.2.2.2.2.1.cells j gj
        obtain ⟨g1, o1, ea1, k1, m1', hgb, ht1⟩ := (HO.out.2.2.2.1.apart HR.out.2.1).at (by omega)
        subst ea1
        have HPx := Hd (fun i v h => ht1 _ _ (hcs i v h))
        have HT := Hd (show firstF (adE cl) (ks.take (j + 1)) = (firstF (adE cl) (ks.take j)).or (adE cl ks[j]) by rw [List.take_succ_eq_append_getElem gj, firstF_snoc])
        have HXp := Hd (hP ks[j] b (ST2.or (firstF (adE cl) (ks.take j))) cl ac cc wr k9 nm9 f9 u9 ap9 np9 cp9 ak9 nk9 ck9 ab9 nb9 cb9 aa9 na9 ca9 (HZ.out.2.1 _ (List.getElem_mem gj)) HR.out.1 (HO.out.1.apart HR.out.2.1) (hE.apart HR.out.2.1))
        clear ht1 hcs hE
        generalize ks[j] = tk at *
        have p0 : wr.cell? ⟨g1, o1 + j * 8, none⟩ = some (.int .i64 k9) := HPx.out 0 _ rfl
        have p1 := pa (HPx.out 1 _ rfl)
        have p2 := pa (HPx.out 2 _ rfl)
        have p3 := pa (HPx.out 3 _ rfl)
        have p4 := pa (HPx.out 4 _ rfl)
        have p5 := pa (HPx.out 5 _ rfl)
        have p6 := pa (HPx.out 6 _ rfl)
        have p7 := pa (HPx.out 7 _ rfl)
        have ej : IntKind.i64.wrap ((j : Int) + 1) = (j : Int) + 1 := by rw [IntKind.wrap_i64]; omega
        have b0 : (0 : Int) ≤ (j : Int) := by omega
        go_wp2_with fail
        refine HXp.out.mono ?_
        rintro e w6 ⟨rfl, hs6, hg6⟩
        have H6 := Hd (Ai hs6 hg6)
        clear hs6 hg6 HXp p0 p1 p2 p3 p4 p5 p6 p7 x4 x5 x6 x7
        go_wp2_with fail
        refine ⟨⟨j + 1, by omega, by go_num, ?_, Gt HR.out.2.1 H6.out.2, HR.out.2.2.grown H6.out.2 hne⟩, by simp [RowKit.intOf]; omega⟩
        rw [HT.out, ← or_assoc_f]
        exact H6.out.1
       ·obtain rfl : j = ks.length := by omega
        have hs2 := HR.out.1
        rw [List.take_length] at hs2
        have HR3 := Hd (Ai hs2 HR.out.2)
        clear hs2 HR HR2
        generalize wr = wB at *
        obtain ⟨ST3, hST3⟩ : ∃ ST3, ST3 = ST2.or (firstF (adE cl) ks) := ⟨_, rfl⟩
        rw [← hST3] at HR3
        have HST3 := Hd hST3
        clear hST3
        go_wp2_with fail
        go_loopw [6] (fun s wr => ∃ j : Nat, j ≤ al.length ∧ s = .int .i64 j ∧ SAt wr b (ST3.or (firstF (adA cl) (al.take j))) (.slice ac cl.length cc) ∧ w.grownBy wr (some b) ∧ BoxW wr w.heap.size [.int .i64 5, .string (tx nm), .bool f, .int .u64 u, .slice ap ps.length cp, .slice ak ks.length ck, .slice ab bl.length cb, .slice aa al.length ca]) (fun s _ => al.length - (RowKit.intOf s).toNat)
        case atStart => exact ⟨0, Nat.zero_le _, rfl, by rw [List.take_zero, show firstF (adA cl) [] = none from rfl, or_nil_l]; exact HR3.out.1, HR3.out.2.1, HR3.out.2.2⟩
        case round =>
         obtain ⟨j, hj, rfl, hs1, hg1, hb1⟩ := hrel
         have HR := Hd (Ai hs1 (Ai hg1 hb1))
         clear x4 x5 x6 x7
         have x4 := hb1.1 4 _ rfl
         have x5 := hb1.1 5 _ rfl
         have x6 := hb1.1 6 _ rfl
         have x7 := hb1.1 7 _ rfl
         clear hs1 hg1 hb1
         by_cases gj : j < al.length
         ·have gj' : (j : Int) < (al.length : Int) := by omega
          obtain ⟨aq9, cq9, k9, nm9, f9, u9, ap9, np9, cp9, ak9, nk9, ck9, ab9, nb9, cb9, aa9, na9, ca9, hQ, hE, hcs⟩ := HO.out.2.2.2.2.2.2.cells j gj
          obtain ⟨g1, o1, ea1, k1, m1', hgb, ht1⟩ := (HO.out.2.2.2.2.2.1.apart HR.out.2.1).at (by omega)
          subst ea1
          have HPx := Hd (fun i v h => ht1 _ _ (hcs i v h))
          have HT := Hd (show firstF (adA cl) (al.take (j + 1)) = (firstF (adA cl) (al.take j)).or (adA cl al[j]) by rw [List.take_succ_eq_append_getElem gj, firstF_snoc])
          have HZj := Hd (HZ.out.2.2 _ (List.getElem_mem gj))
          have HE := Hd (hE.apart HR.out.2.1)
          clear ht1 hcs hE
          obtain ⟨bx, hbx⟩ : ∃ bx, bx = al[j] := ⟨_, rfl⟩
          rw [← hbx] at HZj HT HPx HE
          clear hQ hbx
          obtain ⟨kd, nb0, fd, ud, ps0, body⟩ := bx
          replace HPx := Hd (show ∀ i v, [.int .i64 kd, .string (tx nb0), .bool fd, .int .u64 ud, .slice aq9 ps0.length cq9, .int .i64 k9, .string (tx nm9), .bool f9, .int .u64 u9, .slice ap9 np9 cp9, .slice ak9 nk9 ck9, .slice ab9 nb9 cb9, .slice aa9 na9 ca9][i]? = some v → wr.cell? ⟨g1, o1 + (j * 13 + i), none⟩ = some v from HPx.out)
          replace HE := Hd (show ExAt wr (Apart b) body [.int .i64 k9, .string (tx nm9), .bool f9, .int .u64 u9, .slice ap9 np9 cp9, .slice ak9 nk9 ck9, .slice ab9 nb9 cb9, .slice aa9 na9 ca9] from HE.out)
          replace HZj := Hd (show SizeOf.sizeOf body ≤ n from HZj.out)
          have p0 : wr.cell? ⟨g1, o1 + j * 13, none⟩ = some (.int .i64 kd) := HPx.out 0 _ rfl
          have p1 := pa (HPx.out 1 _ rfl)
          have p2 := pa (HPx.out 2 _ rfl)
          have p3 := pa (HPx.out 3 _ rfl)
          have p4 := pa (HPx.out 4 _ rfl)
          have p5 := pa (HPx.out 5 _ rfl)
          have p6 := pa (HPx.out 6 _ rfl)
          have p7 := pa (HPx.out 7 _ rfl)
          have p8 := pa (HPx.out 8 _ rfl)
          have p9 := pa (HPx.out 9 _ rfl)
          have p10 := pa (HPx.out 10 _ rfl)
          have p11 := pa (HPx.out 11 _ rfl)
          have p12 := pa (HPx.out 12 _ rfl)
          have ej : IntKind.i64.wrap ((j : Int) + 1) = (j : Int) + 1 := by rw [IntKind.wrap_i64]; omega
          have b0 : (0 : Int) ≤ (j : Int) := by omega
          by_cases g0 : kd = 0
          ·subst g0
           have HTa := Hd (show adA cl (0, nb0, fd, ud, ps0, body) = (countD cl nb0 ps0.length).or (adE cl body) by unfold adA; rw [if_pos rfl])
           have HCn := Hd (fun (V : World) (hbv : Below wr.heap.size wr V) => acount_any b (ST3.or (firstF (adA cl) (al.take j))) cl ac cc nb0 (ps0.length : Int) V (HR.out.1.later hbv) ((HO.out.1.apart HR.out.2.1).apartB hbv))
           go_wp2_with fail
           go_region_held3 (fun W' => W'.cell? ⟨w.heap.size, 7, none⟩ = some (.slice (some ⟨g1, o1, none⟩) al.length ca) ∧ W'.cell? ⟨g1, o1 + j * 13 + 1, none⟩ = some (.string (tx nb0)) ∧ W'.cell? ⟨g1, o1 + j * 13 + 4, none⟩ = some (.slice aq9 ps0.length cq9)) (first | exact ⟨v7, l1, l4⟩ | exact ⟨x7, p1, p4⟩ | go_keep) (first
             | (go_at_call 74
                refine (HCn.out _ ?hb).mono ?_
                case hb => exact Br.drew
                rintro e w5 ⟨rfl, hs5, hg5a⟩
                have hg5 : wr.grownBy w5 (some b) := Gt (grown_of (b := b) Br.drew) hg5a
                have v7 := hg5.cell x7 (by simpa using hne)
                have l1 := hg5.cell p1 (by simpa using hgb)
                have l4 := hg5.cell p4 (by simpa using hgb)))
           have H5 := Hd (Ai hs5 (Ai (Gt HR.out.2.1 hg5) (HR.out.2.2.grown hg5 hne)))
           have l5 := hg5.cell p5 (by simpa using hgb)
           have l6 := hg5.cell p6 (by simpa using hgb)
           have l7 := hg5.cell p7 (by simpa using hgb)
           have l8 := hg5.cell p8 (by simpa using hgb)
           have l9 := hg5.cell p9 (by simpa using hgb)
           have l10 := hg5.cell p10 (by simpa using hgb)
           have l11 := hg5.cell p11 (by simpa using hgb)
           have l12 := hg5.cell p12 (by simpa using hgb)
           have HXp := Hd (hP body b ((ST3.or (firstF (adA cl) (al.take j))).or (countD cl nb0 ps0.length)) cl ac cc w5 k9 nm9 f9 u9 ap9 np9 cp9 ak9 nk9 ck9 ab9 nb9 cb9 aa9 na9 ca9 HZj.out H5.out.1 (HO.out.1.apart H5.out.2.1) (HE.out.apart hg5))
           clear hs5 hg5 hg5a l1 l4 HCn p0 p1 p2 p3 p4 p5 p6 p7 p8 p9 p10 p11 p12 x4 x5 x6 x7
           go_wp2_with fail
           refine HXp.out.mono ?_
           rintro e w6 ⟨rfl, hs6, hg6⟩
           have H6 := Hd (Ai hs6 hg6)
           clear hs6 hg6 HXp v7 l5 l6 l7 l8 l9 l10 l11 l12
           go_wp2_with fail
           refine ⟨⟨j + 1, by omega, by go_num, ?_, Gt H5.out.2.1 H6.out.2, H5.out.2.2.grown H6.out.2 hne⟩, by simp [RowKit.intOf]; omega⟩
           rw [HT.out, HTa.out, ← or_assoc_f, ← or_assoc_f]
           exact H6.out.1
          ·have f0 : (kd == 0) = false := by simpa using g0
           have HTa := Hd (show adA cl (kd, nb0, fd, ud, ps0, body) = adE cl body by unfold adA; rw [if_neg g0]; rfl)
           have HXp := Hd (hP body b (ST3.or (firstF (adA cl) (al.take j))) cl ac cc wr k9 nm9 f9 u9 ap9 np9 cp9 ak9 nk9 ck9 ab9 nb9 cb9 aa9 na9 ca9 HZj.out HR.out.1 (HO.out.1.apart HR.out.2.1) HE.out)
           clear g0
           go_wp2_with fail
           refine HXp.out.mono ?_
           rintro e w6 ⟨rfl, hs6, hg6⟩
           have H6 := Hd (Ai hs6 hg6)
           clear hs6 hg6 HXp f0 p0 p1 p2 p3 p4 p5 p6 p7 p8 p9 p10 p11 p12 x4 x5 x6 x7
           go_wp2_with fail
           refine ⟨⟨j + 1, by omega, by go_num, ?_, Gt HR.out.2.1 H6.out.2, HR.out.2.2.grown H6.out.2 hne⟩, by simp [RowKit.intOf]; omega⟩
           rw [HT.out, HTa.out, ← or_assoc_f]
           exact H6.out.1
         ·obtain rfl : j = al.length := by omega
          have hs2 := HR.out.1
          rw [List.take_length] at hs2
          have HR4 := Hd (Ai hs2 HR.out.2.1)
          clear hs2
          go_wp2_with fail
          go_end0
          refine ⟨rfl, ?_, HR4.out.2⟩
          rw [HM.out, ← or_assoc_f, ← or_assoc_f, ← or_assoc_f, ← HST.out, ← HST2.out, ← HST3.out]
          exact HR4.out.1
  by_cases g4 : k = 4
  ·have hH : adH cl k nm ps ks.length = oneF (decide (25 < ks.length)) 12 [] := by unfold adH; rw [if_neg g2, if_neg g5, if_pos g4]
   rw [hH] at HM
   clear hH g2 g5
   subst g4
   have hx := (Below.refl w.heap.size w).alloc Nr (.cells #[.int .i64 4, .string (tx nm), .bool f, .int .u64 u, .slice ap ps.length cp, .slice ak ks.length ck, .slice ab bl.length cb, .slice aa al.length ca] 57)
   have hB := BoxW.alloc w #[.int .i64 4, .string (tx nm), .bool f, .int .u64 u, .slice ap ps.length cp, .slice ak ks.length ck, .slice ab bl.length cb, .slice aa al.length ca] 57
   have HX := Hd (Ai (hS.later hx) (Ai (grown_of (b := b) hx) hB))
   clear hS hx hB
   have f2 : ((4 : Int) == 2) = false := rfl
   have f5 : ((4 : Int) == 5) = false := rfl
   by_cases g : (25 < ks.length)
   ·have g' : (25 : Int) < (ks.length : Int) := by omega
    have HH := Hd (show oneF (decide (25 < ks.length)) 12 [] = some (12, []) by unfold oneF; rw [if_pos (decide_eq_true g)])
    rw [HH.out] at HM
    clear HH
    clear g
    have HC := Hd (afault_any b st _ 12 (by decide) [] _ HX.out.1)
    rw [show tx [] = ⟨#[]⟩ from rfl] at HC
    go_enter Tryz.func39, Tryz.ntmps39
    go_wp2_with fail
    refine HC.out.mono ?_
    rintro e w2 ⟨rfl, hs2, hg2⟩
    have H2 := Hd (Ai hs2 (Ai (Gt HX.out.2.1 hg2) (HX.out.2.2.grown hg2 hne)))
    clear hs2 hg2 HC
    obtain ⟨ST, hST⟩ : ∃ ST, ST = st.or (some (12, [])) := ⟨_, rfl⟩
    rw [← hST] at H2
    have HST := Hd hST
    clear hST
    have y4 := H2.out.2.2.1 4 _ rfl
    have y5 := H2.out.2.2.1 5 _ rfl
    have y6 := H2.out.2.2.1 6 _ rfl
    have y7 := H2.out.2.2.1 7 _ rfl
    go_wp2_with fail
    try clear g'
    try clear fz
    go_loopw [4] (fun s wr => ∃ j : Nat, j ≤ bl.length ∧ s = .int .i64 j ∧ SAt wr b (ST.or (firstF (adB cl) (bl.take j))) (.slice ac cl.length cc) ∧ w.grownBy wr (some b) ∧ BoxW wr w.heap.size [.int .i64 4, .string (tx nm), .bool f, .int .u64 u, .slice ap ps.length cp, .slice ak ks.length ck, .slice ab bl.length cb, .slice aa al.length ca]) (fun s _ => bl.length - (RowKit.intOf s).toNat)
    case atStart => exact ⟨0, Nat.zero_le _, rfl, by rw [List.take_zero, show firstF (adB cl) [] = none from rfl, or_nil_l]; exact H2.out.1, H2.out.2.1, H2.out.2.2⟩
    case round =>
     obtain ⟨j, hj, rfl, hs1, hg1, hb1⟩ := hrel
     have HR := Hd (Ai hs1 (Ai hg1 hb1))
     have x4 := hb1.1 4 _ rfl
     have x5 := hb1.1 5 _ rfl
     have x6 := hb1.1 6 _ rfl
     have x7 := hb1.1 7 _ rfl
     clear hs1 hg1 hb1 y4 y5 y6 y7
     by_cases gj : j < bl.length
     ·have gj' : (j : Int) < (bl.length : Int) := by omega
      obtain ⟨aq9, cq9, k9, nm9, f9, u9, ap9, np9, cp9, ak9, nk9, ck9, ab9, nb9, cb9, aa9, na9, ca9, hQ, hE, hcs⟩ := HO.out.2.2.1.cells j gj
      obtain ⟨g1, o1, ea1, k1, m1', hgb, ht1⟩ := (HO.out.2.1.apart HR.out.2.1).at (by omega)
      subst ea1
      have HPx := Hd (fun i v h => ht1 _ _ (hcs i v h))
      have HT := Hd (show firstF (adB cl) (bl.take (j + 1)) = (firstF (adB cl) (bl.take j)).or (adB cl bl[j]) by rw [List.take_succ_eq_append_getElem gj, firstF_snoc])
      have HXp := Hd (abind_any n hP b (ST.or (firstF (adB cl) (bl.take j))) cl ac cc bl[j].1 bl[j].2.1 bl[j].2.2 aq9 cq9 k9 nm9 f9 u9 ap9 np9 cp9 ak9 nk9 ck9 ab9 nb9 cb9 aa9 na9 ca9 wr (HZ.out.1 _ (List.getElem_mem gj)) hQ.cap HR.out.1 (HO.out.1.apart HR.out.2.1) (hE.apart HR.out.2.1))
      clear ht1 hcs hE hQ
      obtain ⟨bx, hbx⟩ : ∃ bx, bx = bl[j] := ⟨_, rfl⟩
      rw [← hbx] at HXp HT HPx
      clear hbx
      obtain ⟨nb0, ps0, body⟩ := bx
      replace HPx := Hd (show ∀ i v, [.string (tx nb0), .slice aq9 ps0.length cq9, .int .i64 k9, .string (tx nm9), .bool f9, .int .u64 u9, .slice ap9 np9 cp9, .slice ak9 nk9 ck9, .slice ab9 nb9 cb9, .slice aa9 na9 ca9][i]? = some v → wr.cell? ⟨g1, o1 + (j * 10 + i), none⟩ = some v from HPx.out)
      replace HXp := Hd (show Calls Tryz.prog 19 #[.pointer (some ⟨b, 0, none⟩), .agg #[.string (tx nb0), .slice aq9 ps0.length cq9, .int .i64 k9, .string (tx nm9), .bool f9, .int .u64 u9, .slice ap9 np9 cp9, .slice ak9 nk9 ck9, .slice ab9 nb9 cb9, .slice aa9 na9 ca9]] wr fun e w' => e = .returned (.tuple #[]) ∧ SAt w' b ((ST.or (firstF (adB cl) (bl.take j))).or (adB cl (nb0, ps0, body))) (.slice ac cl.length cc) ∧ wr.grownBy w' (some b) from HXp.out)
      have p0 : wr.cell? ⟨g1, o1 + j * 10, none⟩ = some (.string (tx nb0)) := HPx.out 0 _ rfl
      have p1 := pa (HPx.out 1 _ rfl)
      have p2 := pa (HPx.out 2 _ rfl)
      have p3 := pa (HPx.out 3 _ rfl)
      have p4 := pa (HPx.out 4 _ rfl)
      have p5 := pa (HPx.out 5 _ rfl)
      have p6 := pa (HPx.out 6 _ rfl)
      have p7 := pa (HPx.out 7 _ rfl)
      have p8 := pa (HPx.out 8 _ rfl)
      have p9 := pa (HPx.out 9 _ rfl)
      have ej : IntKind.i64.wrap ((j : Int) + 1) = (j : Int) + 1 := by rw [IntKind.wrap_i64]; omega
      have b0 : (0 : Int) ≤ (j : Int) := by omega
      go_wp2_with fail
      refine HXp.out.mono ?_
      rintro e w6 ⟨rfl, hs6, hg6⟩
      have H6 := Hd (Ai hs6 hg6)
      clear hs6 hg6 HXp p0 p1 p2 p3 p4 p5 p6 p7 p8 p9 x4 x5 x6 x7
      go_wp2_with fail
      refine ⟨⟨j + 1, by omega, by go_num, ?_, Gt HR.out.2.1 H6.out.2, HR.out.2.2.grown H6.out.2 hne⟩, by simp [RowKit.intOf]; omega⟩
      rw [HT.out, ← or_assoc_f]
      exact H6.out.1
     ·obtain rfl : j = bl.length := by omega
      have hs2 := HR.out.1
      rw [List.take_length] at hs2
      have HR2 := Hd (Ai hs2 HR.out.2)
      clear hs2 HR
      generalize wr = wA at *
      obtain ⟨ST2, hST2⟩ : ∃ ST2, ST2 = ST.or (firstF (adB cl) bl) := ⟨_, rfl⟩
      rw [← hST2] at HR2
      have HST2 := Hd hST2
      clear hST2
      go_wp2_with fail
      go_loopw [5] (fun s wr => ∃ j : Nat, j ≤ ks.length ∧ s = .int .i64 j ∧ SAt wr b (ST2.or (firstF (adE cl) (ks.take j))) (.slice ac cl.length cc) ∧ w.grownBy wr (some b) ∧ BoxW wr w.heap.size [.int .i64 4, .string (tx nm), .bool f, .int .u64 u, .slice ap ps.length cp, .slice ak ks.length ck, .slice ab bl.length cb, .slice aa al.length ca]) (fun s _ => ks.length - (RowKit.intOf s).toNat)
      case atStart => exact ⟨0, Nat.zero_le _, rfl, by rw [List.take_zero, show firstF (adE cl) [] = none from rfl, or_nil_l]; exact HR2.out.1, HR2.out.2.1, HR2.out.2.2⟩
      case round =>
       obtain ⟨j, hj, rfl, hs1, hg1, hb1⟩ := hrel
       have HR := Hd (Ai hs1 (Ai hg1 hb1))
       clear x4 x5 x6 x7
       have x4 := hb1.1 4 _ rfl
       have x5 := hb1.1 5 _ rfl
       have x6 := hb1.1 6 _ rfl
       have x7 := hb1.1 7 _ rfl
       clear hs1 hg1 hb1
       by_cases gj : j < ks.length
       ·have gj' : (j : Int) < (ks.length : Int) := by omega
        obtain ⟨k9, nm9, f9, u9, ap9, np9, cp9, ak9, nk9, ck9, ab9, nb9, cb9, aa9, na9, ca9, hE, hcs⟩ := HO.out.2.2.2.2.1.cells j gj
        obtain ⟨g1, o1, ea1, k1, m1', hgb, ht1⟩ := (HO.out.2.2.2.1.apart HR.out.2.1).at (by omega)
        subst ea1
        have HPx := Hd (fun i v h => ht1 _ _ (hcs i v h))
        have HT := Hd (show firstF (adE cl) (ks.take (j + 1)) = (firstF (adE cl) (ks.take j)).or (adE cl ks[j]) by rw [List.take_succ_eq_append_getElem gj, firstF_snoc])
        have HXp := Hd (hP ks[j] b (ST2.or (firstF (adE cl) (ks.take j))) cl ac cc wr k9 nm9 f9 u9 ap9 np9 cp9 ak9 nk9 ck9 ab9 nb9 cb9 aa9 na9 ca9 (HZ.out.2.1 _ (List.getElem_mem gj)) HR.out.1 (HO.out.1.apart HR.out.2.1) (hE.apart HR.out.2.1))
        clear ht1 hcs hE
        generalize ks[j] = tk at *
        have p0 : wr.cell? ⟨g1, o1 + j * 8, none⟩ = some (.int .i64 k9) := HPx.out 0 _ rfl
        have p1 := pa (HPx.out 1 _ rfl)
        have p2 := pa (HPx.out 2 _ rfl)
        have p3 := pa (HPx.out 3 _ rfl)
        have p4 := pa (HPx.out 4 _ rfl)
        have p5 := pa (HPx.out 5 _ rfl)
        have p6 := pa (HPx.out 6 _ rfl)
        have p7 := pa (HPx.out 7 _ rfl)
        have ej : IntKind.i64.wrap ((j : Int) + 1) = (j : Int) + 1 := by rw [IntKind.wrap_i64]; omega
        have b0 : (0 : Int) ≤ (j : Int) := by omega
        go_wp2_with fail
        refine HXp.out.mono ?_
        rintro e w6 ⟨rfl, hs6, hg6⟩
        have H6 := Hd (Ai hs6 hg6)
        clear hs6 hg6 HXp p0 p1 p2 p3 p4 p5 p6 p7 x4 x5 x6 x7
        go_wp2_with fail
        refine ⟨⟨j + 1, by omega, by go_num, ?_, Gt HR.out.2.1 H6.out.2, HR.out.2.2.grown H6.out.2 hne⟩, by simp [RowKit.intOf]; omega⟩
        rw [HT.out, ← or_assoc_f]
        exact H6.out.1
       ·obtain rfl : j = ks.length := by omega
        have hs2 := HR.out.1
        rw [List.take_length] at hs2
        have HR3 := Hd (Ai hs2 HR.out.2)
        clear hs2 HR HR2
        generalize wr = wB at *
        obtain ⟨ST3, hST3⟩ : ∃ ST3, ST3 = ST2.or (firstF (adE cl) ks) := ⟨_, rfl⟩
        rw [← hST3] at HR3
        have HST3 := Hd hST3
        clear hST3
        go_wp2_with fail
        go_loopw [6] (fun s wr => ∃ j : Nat, j ≤ al.length ∧ s = .int .i64 j ∧ SAt wr b (ST3.or (firstF (adA cl) (al.take j))) (.slice ac cl.length cc) ∧ w.grownBy wr (some b) ∧ BoxW wr w.heap.size [.int .i64 4, .string (tx nm), .bool f, .int .u64 u, .slice ap ps.length cp, .slice ak ks.length ck, .slice ab bl.length cb, .slice aa al.length ca]) (fun s _ => al.length - (RowKit.intOf s).toNat)
        case atStart => exact ⟨0, Nat.zero_le _, rfl, by rw [List.take_zero, show firstF (adA cl) [] = none from rfl, or_nil_l]; exact HR3.out.1, HR3.out.2.1, HR3.out.2.2⟩
        case round =>
         obtain ⟨j, hj, rfl, hs1, hg1, hb1⟩ := hrel
         have HR := Hd (Ai hs1 (Ai hg1 hb1))
         clear x4 x5 x6 x7
         have x4 := hb1.1 4 _ rfl
         have x5 := hb1.1 5 _ rfl
         have x6 := hb1.1 6 _ rfl
         have x7 := hb1.1 7 _ rfl
         clear hs1 hg1 hb1
         by_cases gj : j < al.length
         ·have gj' : (j : Int) < (al.length : Int) := by omega
          obtain ⟨aq9, cq9, k9, nm9, f9, u9, ap9, np9, cp9, ak9, nk9, ck9, ab9, nb9, cb9, aa9, na9, ca9, hQ, hE, hcs⟩ := HO.out.2.2.2.2.2.2.cells j gj
          obtain ⟨g1, o1, ea1, k1, m1', hgb, ht1⟩ := (HO.out.2.2.2.2.2.1.apart HR.out.2.1).at (by omega)
          subst ea1
          have HPx := Hd (fun i v h => ht1 _ _ (hcs i v h))
          have HT := Hd (show firstF (adA cl) (al.take (j + 1)) = (firstF (adA cl) (al.take j)).or (adA cl al[j]) by rw [List.take_succ_eq_append_getElem gj, firstF_snoc])
          have HZj := Hd (HZ.out.2.2 _ (List.getElem_mem gj))
          have HE := Hd (hE.apart HR.out.2.1)
          clear ht1 hcs hE
          obtain ⟨bx, hbx⟩ : ∃ bx, bx = al[j] := ⟨_, rfl⟩
          rw [← hbx] at HZj HT HPx HE
          clear hQ hbx
          obtain ⟨kd, nb0, fd, ud, ps0, body⟩ := bx
          replace HPx := Hd (show ∀ i v, [.int .i64 kd, .string (tx nb0), .bool fd, .int .u64 ud, .slice aq9 ps0.length cq9, .int .i64 k9, .string (tx nm9), .bool f9, .int .u64 u9, .slice ap9 np9 cp9, .slice ak9 nk9 ck9, .slice ab9 nb9 cb9, .slice aa9 na9 ca9][i]? = some v → wr.cell? ⟨g1, o1 + (j * 13 + i), none⟩ = some v from HPx.out)
          replace HE := Hd (show ExAt wr (Apart b) body [.int .i64 k9, .string (tx nm9), .bool f9, .int .u64 u9, .slice ap9 np9 cp9, .slice ak9 nk9 ck9, .slice ab9 nb9 cb9, .slice aa9 na9 ca9] from HE.out)
          replace HZj := Hd (show SizeOf.sizeOf body ≤ n from HZj.out)
          have p0 : wr.cell? ⟨g1, o1 + j * 13, none⟩ = some (.int .i64 kd) := HPx.out 0 _ rfl
          have p1 := pa (HPx.out 1 _ rfl)
          have p2 := pa (HPx.out 2 _ rfl)
          have p3 := pa (HPx.out 3 _ rfl)
          have p4 := pa (HPx.out 4 _ rfl)
          have p5 := pa (HPx.out 5 _ rfl)
          have p6 := pa (HPx.out 6 _ rfl)
          have p7 := pa (HPx.out 7 _ rfl)
          have p8 := pa (HPx.out 8 _ rfl)
          have p9 := pa (HPx.out 9 _ rfl)
          have p10 := pa (HPx.out 10 _ rfl)
          have p11 := pa (HPx.out 11 _ rfl)
          have p12 := pa (HPx.out 12 _ rfl)
          have ej : IntKind.i64.wrap ((j : Int) + 1) = (j : Int) + 1 := by rw [IntKind.wrap_i64]; omega
          have b0 : (0 : Int) ≤ (j : Int) := by omega
          by_cases g0 : kd = 0
          ·subst g0
           have HTa := Hd (show adA cl (0, nb0, fd, ud, ps0, body) = (countD cl nb0 ps0.length).or (adE cl body) by unfold adA; rw [if_pos rfl])
           have HCn := Hd (fun (V : World) (hbv : Below wr.heap.size wr V) => acount_any b (ST3.or (firstF (adA cl) (al.take j))) cl ac cc nb0 (ps0.length : Int) V (HR.out.1.later hbv) ((HO.out.1.apart HR.out.2.1).apartB hbv))
           go_wp2_with fail
           go_region_held3 (fun W' => W'.cell? ⟨w.heap.size, 7, none⟩ = some (.slice (some ⟨g1, o1, none⟩) al.length ca) ∧ W'.cell? ⟨g1, o1 + j * 13 + 1, none⟩ = some (.string (tx nb0)) ∧ W'.cell? ⟨g1, o1 + j * 13 + 4, none⟩ = some (.slice aq9 ps0.length cq9)) (first | exact ⟨v7, l1, l4⟩ | exact ⟨x7, p1, p4⟩ | go_keep) (first
             | (go_at_call 74
                refine (HCn.out _ ?hb).mono ?_
                case hb => exact Br.drew
                rintro e w5 ⟨rfl, hs5, hg5a⟩
                have hg5 : wr.grownBy w5 (some b) := Gt (grown_of (b := b) Br.drew) hg5a
                have v7 := hg5.cell x7 (by simpa using hne)
                have l1 := hg5.cell p1 (by simpa using hgb)
                have l4 := hg5.cell p4 (by simpa using hgb)))
           have H5 := Hd (Ai hs5 (Ai (Gt HR.out.2.1 hg5) (HR.out.2.2.grown hg5 hne)))
           have l5 := hg5.cell p5 (by simpa using hgb)
           have l6 := hg5.cell p6 (by simpa using hgb)
           have l7 := hg5.cell p7 (by simpa using hgb)
           have l8 := hg5.cell p8 (by simpa using hgb)
           have l9 := hg5.cell p9 (by simpa using hgb)
           have l10 := hg5.cell p10 (by simpa using hgb)
           have l11 := hg5.cell p11 (by simpa using hgb)
           have l12 := hg5.cell p12 (by simpa using hgb)
           have HXp := Hd (hP body b ((ST3.or (firstF (adA cl) (al.take j))).or (countD cl nb0 ps0.length)) cl ac cc w5 k9 nm9 f9 u9 ap9 np9 cp9 ak9 nk9 ck9 ab9 nb9 cb9 aa9 na9 ca9 HZj.out H5.out.1 (HO.out.1.apart H5.out.2.1) (HE.out.apart hg5))
           clear hs5 hg5 hg5a l1 l4 HCn p0 p1 p2 p3 p4 p5 p6 p7 p8 p9 p10 p11 p12 x4 x5 x6 x7
           go_wp2_with fail
           refine HXp.out.mono ?_
           rintro e w6 ⟨rfl, hs6, hg6⟩
           have H6 := Hd (Ai hs6 hg6)
           clear hs6 hg6 HXp v7 l5 l6 l7 l8 l9 l10 l11 l12
           go_wp2_with fail
           refine ⟨⟨j + 1, by omega, by go_num, ?_, Gt H5.out.2.1 H6.out.2, H5.out.2.2.grown H6.out.2 hne⟩, by simp [RowKit.intOf]; omega⟩
           rw [HT.out, HTa.out, ← or_assoc_f, ← or_assoc_f]
           exact H6.out.1
          ·have f0 : (kd == 0) = false := by simpa using g0
           have HTa := Hd (show adA cl (kd, nb0, fd, ud, ps0, body) = adE cl body by unfold adA; rw [if_neg g0]; rfl)
           have HXp := Hd (hP body b (ST3.or (firstF (adA cl) (al.take j))) cl ac cc wr k9 nm9 f9 u9 ap9 np9 cp9 ak9 nk9 ck9 ab9 nb9 cb9 aa9 na9 ca9 HZj.out HR.out.1 (HO.out.1.apart HR.out.2.1) HE.out)
           clear g0
           go_wp2_with fail
           refine HXp.out.mono ?_
           rintro e w6 ⟨rfl, hs6, hg6⟩
           have H6 := Hd (Ai hs6 hg6)
           clear hs6 hg6 HXp f0 p0 p1 p2 p3 p4 p5 p6 p7 p8 p9 p10 p11 p12 x4 x5 x6 x7
           go_wp2_with fail
           refine ⟨⟨j + 1, by omega, by go_num, ?_, Gt HR.out.2.1 H6.out.2, HR.out.2.2.grown H6.out.2 hne⟩, by simp [RowKit.intOf]; omega⟩
           rw [HT.out, HTa.out, ← or_assoc_f]
           exact H6.out.1
         ·obtain rfl : j = al.length := by omega
          have hs2 := HR.out.1
          rw [List.take_length] at hs2
          have HR4 := Hd (Ai hs2 HR.out.2.1)
          clear hs2
          go_wp2_with fail
          go_end0
          refine ⟨rfl, ?_, HR4.out.2⟩
          rw [HM.out, ← or_assoc_f, ← or_assoc_f, ← or_assoc_f, ← HST.out, ← HST2.out, ← HST3.out]
          exact HR4.out.1
   ·have g' : ¬ (25 : Int) < (ks.length : Int) := by omega
    have HH := Hd (show oneF (decide (25 < ks.length)) 12 [] = none by unfold oneF; rw [if_neg (by simpa using g)])
    rw [HH.out] at HM
    clear g HH
    have H3 := Hd (show SAt (w.alloc (.cells #[.int .i64 4, .string (tx nm), .bool f, .int .u64 u, .slice ap ps.length cp, .slice ak ks.length ck, .slice ab bl.length cb, .slice aa al.length ca] 57)) b (st.or none) (.slice ac cl.length cc) ∧ w.grownBy (w.alloc (.cells #[.int .i64 4, .string (tx nm), .bool f, .int .u64 u, .slice ap ps.length cp, .slice ak ks.length ck, .slice ab bl.length cb, .slice aa al.length ca] 57)) (some b) ∧ BoxW (w.alloc (.cells #[.int .i64 4, .string (tx nm), .bool f, .int .u64 u, .slice ap ps.length cp, .slice ak ks.length ck, .slice ab bl.length cb, .slice aa al.length ca] 57)) w.heap.size [.int .i64 4, .string (tx nm), .bool f, .int .u64 u, .slice ap ps.length cp, .slice ak ks.length ck, .slice ab bl.length cb, .slice aa al.length ca] by rw [or_nil_l]; exact HX.out)
    go_enter Tryz.func39, Tryz.ntmps39
    obtain ⟨ST, hST⟩ : ∃ ST, ST = st.or none := ⟨_, rfl⟩
    rw [← hST] at H3
    have HST := Hd hST
    clear hST
    have y4 := H3.out.2.2.1 4 _ rfl
    have y5 := H3.out.2.2.1 5 _ rfl
    have y6 := H3.out.2.2.1 6 _ rfl
    have y7 := H3.out.2.2.1 7 _ rfl
    go_wp2_with fail
    try clear g'
    try clear fz
    go_loopw [4] (fun s wr => ∃ j : Nat, j ≤ bl.length ∧ s = .int .i64 j ∧ SAt wr b (ST.or (firstF (adB cl) (bl.take j))) (.slice ac cl.length cc) ∧ w.grownBy wr (some b) ∧ BoxW wr w.heap.size [.int .i64 4, .string (tx nm), .bool f, .int .u64 u, .slice ap ps.length cp, .slice ak ks.length ck, .slice ab bl.length cb, .slice aa al.length ca]) (fun s _ => bl.length - (RowKit.intOf s).toNat)
    case atStart => exact ⟨0, Nat.zero_le _, rfl, by rw [List.take_zero, show firstF (adB cl) [] = none from rfl, or_nil_l]; exact H3.out.1, H3.out.2.1, H3.out.2.2⟩
    case round =>
     obtain ⟨j, hj, rfl, hs1, hg1, hb1⟩ := hrel
     have HR := Hd (Ai hs1 (Ai hg1 hb1))
     have x4 := hb1.1 4 _ rfl
     have x5 := hb1.1 5 _ rfl
     have x6 := hb1.1 6 _ rfl
     have x7 := hb1.1 7 _ rfl
     clear hs1 hg1 hb1 y4 y5 y6 y7
     by_cases gj : j < bl.length
     ·have gj' : (j : Int) < (bl.length : Int) := by omega
      obtain ⟨aq9, cq9, k9, nm9, f9, u9, ap9, np9, cp9, ak9, nk9, ck9, ab9, nb9, cb9, aa9, na9, ca9, hQ, hE, hcs⟩ := HO.out.2.2.1.cells j gj
      obtain ⟨g1, o1, ea1, k1, m1', hgb, ht1⟩ := (HO.out.2.1.apart HR.out.2.1).at (by omega)
      subst ea1
      have HPx := Hd (fun i v h => ht1 _ _ (hcs i v h))
      have HT := Hd (show firstF (adB cl) (bl.take (j + 1)) = (firstF (adB cl) (bl.take j)).or (adB cl bl[j]) by rw [List.take_succ_eq_append_getElem gj, firstF_snoc])
      have HXp := Hd (abind_any n hP b (ST.or (firstF (adB cl) (bl.take j))) cl ac cc bl[j].1 bl[j].2.1 bl[j].2.2 aq9 cq9 k9 nm9 f9 u9 ap9 np9 cp9 ak9 nk9 ck9 ab9 nb9 cb9 aa9 na9 ca9 wr (HZ.out.1 _ (List.getElem_mem gj)) hQ.cap HR.out.1 (HO.out.1.apart HR.out.2.1) (hE.apart HR.out.2.1))
      clear ht1 hcs hE hQ
      obtain ⟨bx, hbx⟩ : ∃ bx, bx = bl[j] := ⟨_, rfl⟩
      rw [← hbx] at HXp HT HPx
      clear hbx
      obtain ⟨nb0, ps0, body⟩ := bx
      replace HPx := Hd (show ∀ i v, [.string (tx nb0), .slice aq9 ps0.length cq9, .int .i64 k9, .string (tx nm9), .bool f9, .int .u64 u9, .slice ap9 np9 cp9, .slice ak9 nk9 ck9, .slice ab9 nb9 cb9, .slice aa9 na9 ca9][i]? = some v → wr.cell? ⟨g1, o1 + (j * 10 + i), none⟩ = some v from HPx.out)
      replace HXp := Hd (show Calls Tryz.prog 19 #[.pointer (some ⟨b, 0, none⟩), .agg #[.string (tx nb0), .slice aq9 ps0.length cq9, .int .i64 k9, .string (tx nm9), .bool f9, .int .u64 u9, .slice ap9 np9 cp9, .slice ak9 nk9 ck9, .slice ab9 nb9 cb9, .slice aa9 na9 ca9]] wr fun e w' => e = .returned (.tuple #[]) ∧ SAt w' b ((ST.or (firstF (adB cl) (bl.take j))).or (adB cl (nb0, ps0, body))) (.slice ac cl.length cc) ∧ wr.grownBy w' (some b) from HXp.out)
      have p0 : wr.cell? ⟨g1, o1 + j * 10, none⟩ = some (.string (tx nb0)) := HPx.out 0 _ rfl
      have p1 := pa (HPx.out 1 _ rfl)
      have p2 := pa (HPx.out 2 _ rfl)
      have p3 := pa (HPx.out 3 _ rfl)
      have p4 := pa (HPx.out 4 _ rfl)
      have p5 := pa (HPx.out 5 _ rfl)
      have p6 := pa (HPx.out 6 _ rfl)
      have p7 := pa (HPx.out 7 _ rfl)
      have p8 := pa (HPx.out 8 _ rfl)
      have p9 := pa (HPx.out 9 _ rfl)
      have ej : IntKind.i64.wrap ((j : Int) + 1) = (j : Int) + 1 := by rw [IntKind.wrap_i64]; omega
      have b0 : (0 : Int) ≤ (j : Int) := by omega
      go_wp2_with fail
      refine HXp.out.mono ?_
      rintro e w6 ⟨rfl, hs6, hg6⟩
      have H6 := Hd (Ai hs6 hg6)
      clear hs6 hg6 HXp p0 p1 p2 p3 p4 p5 p6 p7 p8 p9 x4 x5 x6 x7
      go_wp2_with fail
      refine ⟨⟨j + 1, by omega, by go_num, ?_, Gt HR.out.2.1 H6.out.2, HR.out.2.2.grown H6.out.2 hne⟩, by simp [RowKit.intOf]; omega⟩
      rw [HT.out, ← or_assoc_f]
      exact H6.out.1
     ·obtain rfl : j = bl.length := by omega
      have hs2 := HR.out.1
      rw [List.take_length] at hs2
      have HR2 := Hd (Ai hs2 HR.out.2)
      clear hs2 HR
      generalize wr = wA at *
      obtain ⟨ST2, hST2⟩ : ∃ ST2, ST2 = ST.or (firstF (adB cl) bl) := ⟨_, rfl⟩
      rw [← hST2] at HR2
      have HST2 := Hd hST2
      clear hST2
      go_wp2_with fail
      go_loopw [5] (fun s wr => ∃ j : Nat, j ≤ ks.length ∧ s = .int .i64 j ∧ SAt wr b (ST2.or (firstF (adE cl) (ks.take j))) (.slice ac cl.length cc) ∧ w.grownBy wr (some b) ∧ BoxW wr w.heap.size [.int .i64 4, .string (tx nm), .bool f, .int .u64 u, .slice ap ps.length cp, .slice ak ks.length ck, .slice ab bl.length cb, .slice aa al.length ca]) (fun s _ => ks.length - (RowKit.intOf s).toNat)
      case atStart => exact ⟨0, Nat.zero_le _, rfl, by rw [List.take_zero, show firstF (adE cl) [] = none from rfl, or_nil_l]; exact HR2.out.1, HR2.out.2.1, HR2.out.2.2⟩
      case round =>
       obtain ⟨j, hj, rfl, hs1, hg1, hb1⟩ := hrel
       have HR := Hd (Ai hs1 (Ai hg1 hb1))
       clear x4 x5 x6 x7
       have x4 := hb1.1 4 _ rfl
       have x5 := hb1.1 5 _ rfl
       have x6 := hb1.1 6 _ rfl
       have x7 := hb1.1 7 _ rfl
       clear hs1 hg1 hb1
       by_cases gj : j < ks.length
       ·have gj' : (j : Int) < (ks.length : Int) := by omega
        obtain ⟨k9, nm9, f9, u9, ap9, np9, cp9, ak9, nk9, ck9, ab9, nb9, cb9, aa9, na9, ca9, hE, hcs⟩ := HO.out.2.2.2.2.1.cells j gj
        obtain ⟨g1, o1, ea1, k1, m1', hgb, ht1⟩ := (HO.out.2.2.2.1.apart HR.out.2.1).at (by omega)
        subst ea1
        have HPx := Hd (fun i v h => ht1 _ _ (hcs i v h))
        have HT := Hd (show firstF (adE cl) (ks.take (j + 1)) = (firstF (adE cl) (ks.take j)).or (adE cl ks[j]) by rw [List.take_succ_eq_append_getElem gj, firstF_snoc])
        have HXp := Hd (hP ks[j] b (ST2.or (firstF (adE cl) (ks.take j))) cl ac cc wr k9 nm9 f9 u9 ap9 np9 cp9 ak9 nk9 ck9 ab9 nb9 cb9 aa9 na9 ca9 (HZ.out.2.1 _ (List.getElem_mem gj)) HR.out.1 (HO.out.1.apart HR.out.2.1) (hE.apart HR.out.2.1))
        clear ht1 hcs hE
        generalize ks[j] = tk at *
        have p0 : wr.cell? ⟨g1, o1 + j * 8, none⟩ = some (.int .i64 k9) := HPx.out 0 _ rfl
        have p1 := pa (HPx.out 1 _ rfl)
        have p2 := pa (HPx.out 2 _ rfl)
        have p3 := pa (HPx.out 3 _ rfl)
        have p4 := pa (HPx.out 4 _ rfl)
        have p5 := pa (HPx.out 5 _ rfl)
        have p6 := pa (HPx.out 6 _ rfl)
        have p7 := pa (HPx.out 7 _ rfl)
        have ej : IntKind.i64.wrap ((j : Int) + 1) = (j : Int) + 1 := by rw [IntKind.wrap_i64]; omega
        have b0 : (0 : Int) ≤ (j : Int) := by omega
        go_wp2_with fail
        refine HXp.out.mono ?_
        rintro e w6 ⟨rfl, hs6, hg6⟩
        have H6 := Hd (Ai hs6 hg6)
        clear hs6 hg6 HXp p0 p1 p2 p3 p4 p5 p6 p7 x4 x5 x6 x7
        go_wp2_with fail
        refine ⟨⟨j + 1, by omega, by go_num, ?_, Gt HR.out.2.1 H6.out.2, HR.out.2.2.grown H6.out.2 hne⟩, by simp [RowKit.intOf]; omega⟩
        rw [HT.out, ← or_assoc_f]
        exact H6.out.1
       ·obtain rfl : j = ks.length := by omega
        have hs2 := HR.out.1
        rw [List.take_length] at hs2
        have HR3 := Hd (Ai hs2 HR.out.2)
        clear hs2 HR HR2
        generalize wr = wB at *
        obtain ⟨ST3, hST3⟩ : ∃ ST3, ST3 = ST2.or (firstF (adE cl) ks) := ⟨_, rfl⟩
        rw [← hST3] at HR3
        have HST3 := Hd hST3
        clear hST3
        go_wp2_with fail
        go_loopw [6] (fun s wr => ∃ j : Nat, j ≤ al.length ∧ s = .int .i64 j ∧ SAt wr b (ST3.or (firstF (adA cl) (al.take j))) (.slice ac cl.length cc) ∧ w.grownBy wr (some b) ∧ BoxW wr w.heap.size [.int .i64 4, .string (tx nm), .bool f, .int .u64 u, .slice ap ps.length cp, .slice ak ks.length ck, .slice ab bl.length cb, .slice aa al.length ca]) (fun s _ => al.length - (RowKit.intOf s).toNat)
        case atStart => exact ⟨0, Nat.zero_le _, rfl, by rw [List.take_zero, show firstF (adA cl) [] = none from rfl, or_nil_l]; exact HR3.out.1, HR3.out.2.1, HR3.out.2.2⟩
        case round =>
         obtain ⟨j, hj, rfl, hs1, hg1, hb1⟩ := hrel
         have HR := Hd (Ai hs1 (Ai hg1 hb1))
         clear x4 x5 x6 x7
         have x4 := hb1.1 4 _ rfl
         have x5 := hb1.1 5 _ rfl
         have x6 := hb1.1 6 _ rfl
         have x7 := hb1.1 7 _ rfl
         clear hs1 hg1 hb1
         by_cases gj : j < al.length
         ·have gj' : (j : Int) < (al.length : Int) := by omega
          obtain ⟨aq9, cq9, k9, nm9, f9, u9, ap9, np9, cp9, ak9, nk9, ck9, ab9, nb9, cb9, aa9, na9, ca9, hQ, hE, hcs⟩ := HO.out.2.2.2.2.2.2.cells j gj
          obtain ⟨g1, o1, ea1, k1, m1', hgb, ht1⟩ := (HO.out.2.2.2.2.2.1.apart HR.out.2.1).at (by omega)
          subst ea1
          have HPx := Hd (fun i v h => ht1 _ _ (hcs i v h))
          have HT := Hd (show firstF (adA cl) (al.take (j + 1)) = (firstF (adA cl) (al.take j)).or (adA cl al[j]) by rw [List.take_succ_eq_append_getElem gj, firstF_snoc])
          have HZj := Hd (HZ.out.2.2 _ (List.getElem_mem gj))
          have HE := Hd (hE.apart HR.out.2.1)
          clear ht1 hcs hE
          obtain ⟨bx, hbx⟩ : ∃ bx, bx = al[j] := ⟨_, rfl⟩
          rw [← hbx] at HZj HT HPx HE
          clear hQ hbx
          obtain ⟨kd, nb0, fd, ud, ps0, body⟩ := bx
          replace HPx := Hd (show ∀ i v, [.int .i64 kd, .string (tx nb0), .bool fd, .int .u64 ud, .slice aq9 ps0.length cq9, .int .i64 k9, .string (tx nm9), .bool f9, .int .u64 u9, .slice ap9 np9 cp9, .slice ak9 nk9 ck9, .slice ab9 nb9 cb9, .slice aa9 na9 ca9][i]? = some v → wr.cell? ⟨g1, o1 + (j * 13 + i), none⟩ = some v from HPx.out)
          replace HE := Hd (show ExAt wr (Apart b) body [.int .i64 k9, .string (tx nm9), .bool f9, .int .u64 u9, .slice ap9 np9 cp9, .slice ak9 nk9 ck9, .slice ab9 nb9 cb9, .slice aa9 na9 ca9] from HE.out)
          replace HZj := Hd (show SizeOf.sizeOf body ≤ n from HZj.out)
          have p0 : wr.cell? ⟨g1, o1 + j * 13, none⟩ = some (.int .i64 kd) := HPx.out 0 _ rfl
          have p1 := pa (HPx.out 1 _ rfl)
          have p2 := pa (HPx.out 2 _ rfl)
          have p3 := pa (HPx.out 3 _ rfl)
          have p4 := pa (HPx.out 4 _ rfl)
          have p5 := pa (HPx.out 5 _ rfl)
          have p6 := pa (HPx.out 6 _ rfl)
          have p7 := pa (HPx.out 7 _ rfl)
          have p8 := pa (HPx.out 8 _ rfl)
          have p9 := pa (HPx.out 9 _ rfl)
          have p10 := pa (HPx.out 10 _ rfl)
          have p11 := pa (HPx.out 11 _ rfl)
          have p12 := pa (HPx.out 12 _ rfl)
          have ej : IntKind.i64.wrap ((j : Int) + 1) = (j : Int) + 1 := by rw [IntKind.wrap_i64]; omega
          have b0 : (0 : Int) ≤ (j : Int) := by omega
          by_cases g0 : kd = 0
          ·subst g0
           have HTa := Hd (show adA cl (0, nb0, fd, ud, ps0, body) = (countD cl nb0 ps0.length).or (adE cl body) by unfold adA; rw [if_pos rfl])
           have HCn := Hd (fun (V : World) (hbv : Below wr.heap.size wr V) => acount_any b (ST3.or (firstF (adA cl) (al.take j))) cl ac cc nb0 (ps0.length : Int) V (HR.out.1.later hbv) ((HO.out.1.apart HR.out.2.1).apartB hbv))
           go_wp2_with fail
           go_region_held3 (fun W' => W'.cell? ⟨w.heap.size, 7, none⟩ = some (.slice (some ⟨g1, o1, none⟩) al.length ca) ∧ W'.cell? ⟨g1, o1 + j * 13 + 1, none⟩ = some (.string (tx nb0)) ∧ W'.cell? ⟨g1, o1 + j * 13 + 4, none⟩ = some (.slice aq9 ps0.length cq9)) (first | exact ⟨v7, l1, l4⟩ | exact ⟨x7, p1, p4⟩ | go_keep) (first
             | (go_at_call 74
                refine (HCn.out _ ?hb).mono ?_
                case hb => exact Br.drew
                rintro e w5 ⟨rfl, hs5, hg5a⟩
                have hg5 : wr.grownBy w5 (some b) := Gt (grown_of (b := b) Br.drew) hg5a
                have v7 := hg5.cell x7 (by simpa using hne)
                have l1 := hg5.cell p1 (by simpa using hgb)
                have l4 := hg5.cell p4 (by simpa using hgb)))
           have H5 := Hd (Ai hs5 (Ai (Gt HR.out.2.1 hg5) (HR.out.2.2.grown hg5 hne)))
           have l5 := hg5.cell p5 (by simpa using hgb)
           have l6 := hg5.cell p6 (by simpa using hgb)
           have l7 := hg5.cell p7 (by simpa using hgb)
           have l8 := hg5.cell p8 (by simpa using hgb)
           have l9 := hg5.cell p9 (by simpa using hgb)
           have l10 := hg5.cell p10 (by simpa using hgb)
           have l11 := hg5.cell p11 (by simpa using hgb)
           have l12 := hg5.cell p12 (by simpa using hgb)
           have HXp := Hd (hP body b ((ST3.or (firstF (adA cl) (al.take j))).or (countD cl nb0 ps0.length)) cl ac cc w5 k9 nm9 f9 u9 ap9 np9 cp9 ak9 nk9 ck9 ab9 nb9 cb9 aa9 na9 ca9 HZj.out H5.out.1 (HO.out.1.apart H5.out.2.1) (HE.out.apart hg5))
           clear hs5 hg5 hg5a l1 l4 HCn p0 p1 p2 p3 p4 p5 p6 p7 p8 p9 p10 p11 p12 x4 x5 x6 x7
           go_wp2_with fail
           refine HXp.out.mono ?_
           rintro e w6 ⟨rfl, hs6, hg6⟩
           have H6 := Hd (Ai hs6 hg6)
           clear hs6 hg6 HXp v7 l5 l6 l7 l8 l9 l10 l11 l12
           go_wp2_with fail
           refine ⟨⟨j + 1, by omega, by go_num, ?_, Gt H5.out.2.1 H6.out.2, H5.out.2.2.grown H6.out.2 hne⟩, by simp [RowKit.intOf]; omega⟩
           rw [HT.out, HTa.out, ← or_assoc_f, ← or_assoc_f]
           exact H6.out.1
          ·have f0 : (kd == 0) = false := by simpa using g0
           have HTa := Hd (show adA cl (kd, nb0, fd, ud, ps0, body) = adE cl body by unfold adA; rw [if_neg g0]; rfl)
           have HXp := Hd (hP body b (ST3.or (firstF (adA cl) (al.take j))) cl ac cc wr k9 nm9 f9 u9 ap9 np9 cp9 ak9 nk9 ck9 ab9 nb9 cb9 aa9 na9 ca9 HZj.out HR.out.1 (HO.out.1.apart HR.out.2.1) HE.out)
           clear g0
           go_wp2_with fail
           refine HXp.out.mono ?_
           rintro e w6 ⟨rfl, hs6, hg6⟩
           have H6 := Hd (Ai hs6 hg6)
           clear hs6 hg6 HXp f0 p0 p1 p2 p3 p4 p5 p6 p7 p8 p9 p10 p11 p12 x4 x5 x6 x7
           go_wp2_with fail
           refine ⟨⟨j + 1, by omega, by go_num, ?_, Gt HR.out.2.1 H6.out.2, HR.out.2.2.grown H6.out.2 hne⟩, by simp [RowKit.intOf]; omega⟩
           rw [HT.out, HTa.out, ← or_assoc_f]
           exact H6.out.1
         ·obtain rfl : j = al.length := by omega
          have hs2 := HR.out.1
          rw [List.take_length] at hs2
          have HR4 := Hd (Ai hs2 HR.out.2.1)
          clear hs2
          go_wp2_with fail
          go_end0
          refine ⟨rfl, ?_, HR4.out.2⟩
          rw [HM.out, ← or_assoc_f, ← or_assoc_f, ← or_assoc_f, ← HST.out, ← HST2.out, ← HST3.out]
          exact HR4.out.1
  by_cases g8 : k = 8
  ·have hH : adH cl k nm ps ks.length = oneF (decide (24 < ps.length)) 12 (ps.headD []) := by unfold adH; rw [if_neg g2, if_neg g5, if_neg g4, if_pos g8]
   rw [hH] at HM
   clear hH g2 g5 g4
   subst g8
   have hx := (Below.refl w.heap.size w).alloc Nr (.cells #[.int .i64 8, .string (tx nm), .bool f, .int .u64 u, .slice ap ps.length cp, .slice ak ks.length ck, .slice ab bl.length cb, .slice aa al.length ca] 57)
   have hB := BoxW.alloc w #[.int .i64 8, .string (tx nm), .bool f, .int .u64 u, .slice ap ps.length cp, .slice ak ks.length ck, .slice ab bl.length cb, .slice aa al.length ca] 57
   have HX := Hd (Ai (hS.later hx) (Ai (grown_of (b := b) hx) hB))
   clear hS hx hB
   have f2 : ((8 : Int) == 2) = false := rfl
   have f5 : ((8 : Int) == 5) = false := rfl
   have f4 : ((8 : Int) == 4) = false := rfl
   by_cases g : (24 < ps.length)
   ·have g' : (24 : Int) < (ps.length : Int) := by omega
    have HH := Hd (show oneF (decide (24 < ps.length)) 12 (ps.headD []) = some (12, (ps.headD [])) by unfold oneF; rw [if_pos (decide_eq_true g)])
    rw [HH.out] at HM
    clear HH
    obtain ⟨gp, op, hap, hcp1, hcp2, hgb0, htp⟩ := HPp.out.at (by omega)
    obtain ⟨p0, hp0, hz0⟩ : ∃ p0, ps.headD [] = p0 ∧ (namesV ps)[0]? = some (.string (tx p0)) := by
      cases ps with
      | nil => exact absurd g (by decide)
      | cons p0 pr => exact ⟨p0, rfl, rfl⟩
    rw [hp0] at HM
    have z0 := later' ((Below.refl w.heap.size w).alloc Nr (.cells #[.int .i64 8, .string (tx nm), .bool f, .int .u64 u, .slice ap ps.length cp, .slice ak ks.length ck, .slice ab bl.length cb, .slice aa al.length ca] 57)) (htp 0 (.string (tx p0)) hz0)
    rw [Nat.add_zero] at z0
    clear htp hz0 hp0
    subst hap
    clear g
    have HC := Hd (afault_any b st _ 12 (by decide) p0 _ HX.out.1)
    go_enter Tryz.func39, Tryz.ntmps39
    go_wp2_with fail
    refine HC.out.mono ?_
    rintro e w2 ⟨rfl, hs2, hg2⟩
    have H2 := Hd (Ai hs2 (Ai (Gt HX.out.2.1 hg2) (HX.out.2.2.grown hg2 hne)))
    clear hs2 hg2 HC
    obtain ⟨ST, hST⟩ : ∃ ST, ST = st.or (some (12, p0)) := ⟨_, rfl⟩
    rw [← hST] at H2
    have HST := Hd hST
    clear hST
    have y4 := H2.out.2.2.1 4 _ rfl
    have y5 := H2.out.2.2.1 5 _ rfl
    have y6 := H2.out.2.2.1 6 _ rfl
    have y7 := H2.out.2.2.1 7 _ rfl
    go_wp2_with fail
    try clear g'
    try clear fz
    go_loopw [4] (fun s wr => ∃ j : Nat, j ≤ bl.length ∧ s = .int .i64 j ∧ SAt wr b (ST.or (firstF (adB cl) (bl.take j))) (.slice ac cl.length cc) ∧ w.grownBy wr (some b) ∧ BoxW wr w.heap.size [.int .i64 8, .string (tx nm), .bool f, .int .u64 u, .slice (some ⟨gp, op, none⟩) ps.length cp, .slice ak ks.length ck, .slice ab bl.length cb, .slice aa al.length ca]) (fun s _ => bl.length - (RowKit.intOf s).toNat)
    case atStart => exact ⟨0, Nat.zero_le _, rfl, by rw [List.take_zero, show firstF (adB cl) [] = none from rfl, or_nil_l]; exact H2.out.1, H2.out.2.1, H2.out.2.2⟩
    case round =>
     obtain ⟨j, hj, rfl, hs1, hg1, hb1⟩ := hrel
     have HR := Hd (Ai hs1 (Ai hg1 hb1))
     have x4 := hb1.1 4 _ rfl
     have x5 := hb1.1 5 _ rfl
     have x6 := hb1.1 6 _ rfl
     have x7 := hb1.1 7 _ rfl
     clear hs1 hg1 hb1 y4 y5 y6 y7
     by_cases gj : j < bl.length
     ·have gj' : (j : Int) < (bl.length : Int) := by omega
      obtain ⟨aq9, cq9, k9, nm9, f9, u9, ap9, np9, cp9, ak9, nk9, ck9, ab9, nb9, cb9, aa9, na9, ca9, hQ, hE, hcs⟩ := HO.out.2.2.1.cells j gj
      obtain ⟨g1, o1, ea1, k1, m1', hgb, ht1⟩ := (HO.out.2.1.apart HR.out.2.1).at (by omega)
      subst ea1
      have HPx := Hd (fun i v h => ht1 _ _ (hcs i v h))
      have HT := Hd (show firstF (adB cl) (bl.take (j + 1)) = (firstF (adB cl) (bl.take j)).or (adB cl bl[j]) by rw [List.take_succ_eq_append_getElem gj, firstF_snoc])
      have HXp := Hd (abind_any n hP b (ST.or (firstF (adB cl) (bl.take j))) cl ac cc bl[j].1 bl[j].2.1 bl[j].2.2 aq9 cq9 k9 nm9 f9 u9 ap9 np9 cp9 ak9 nk9 ck9 ab9 nb9 cb9 aa9 na9 ca9 wr (HZ.out.1 _ (List.getElem_mem gj)) hQ.cap HR.out.1 (HO.out.1.apart HR.out.2.1) (hE.apart HR.out.2.1))
      clear ht1 hcs hE hQ
      obtain ⟨bx, hbx⟩ : ∃ bx, bx = bl[j] := ⟨_, rfl⟩
      rw [← hbx] at HXp HT HPx
      clear hbx
      obtain ⟨nb0, ps0, body⟩ := bx
      replace HPx := Hd (show ∀ i v, [.string (tx nb0), .slice aq9 ps0.length cq9, .int .i64 k9, .string (tx nm9), .bool f9, .int .u64 u9, .slice ap9 np9 cp9, .slice ak9 nk9 ck9, .slice ab9 nb9 cb9, .slice aa9 na9 ca9][i]? = some v → wr.cell? ⟨g1, o1 + (j * 10 + i), none⟩ = some v from HPx.out)
      replace HXp := Hd (show Calls Tryz.prog 19 #[.pointer (some ⟨b, 0, none⟩), .agg #[.string (tx nb0), .slice aq9 ps0.length cq9, .int .i64 k9, .string (tx nm9), .bool f9, .int .u64 u9, .slice ap9 np9 cp9, .slice ak9 nk9 ck9, .slice ab9 nb9 cb9, .slice aa9 na9 ca9]] wr fun e w' => e = .returned (.tuple #[]) ∧ SAt w' b ((ST.or (firstF (adB cl) (bl.take j))).or (adB cl (nb0, ps0, body))) (.slice ac cl.length cc) ∧ wr.grownBy w' (some b) from HXp.out)
      have p0 : wr.cell? ⟨g1, o1 + j * 10, none⟩ = some (.string (tx nb0)) := HPx.out 0 _ rfl
      have p1 := pa (HPx.out 1 _ rfl)
      have p2 := pa (HPx.out 2 _ rfl)
      have p3 := pa (HPx.out 3 _ rfl)
      have p4 := pa (HPx.out 4 _ rfl)
      have p5 := pa (HPx.out 5 _ rfl)
      have p6 := pa (HPx.out 6 _ rfl)
      have p7 := pa (HPx.out 7 _ rfl)
      have p8 := pa (HPx.out 8 _ rfl)
      have p9 := pa (HPx.out 9 _ rfl)
      have ej : IntKind.i64.wrap ((j : Int) + 1) = (j : Int) + 1 := by rw [IntKind.wrap_i64]; omega
      have b0 : (0 : Int) ≤ (j : Int) := by omega
      go_wp2_with fail
      refine HXp.out.mono ?_
      rintro e w6 ⟨rfl, hs6, hg6⟩
      have H6 := Hd (Ai hs6 hg6)
      clear hs6 hg6 HXp p0 p1 p2 p3 p4 p5 p6 p7 p8 p9 x4 x5 x6 x7
      go_wp2_with fail
      refine ⟨⟨j + 1, by omega, by go_num, ?_, Gt HR.out.2.1 H6.out.2, HR.out.2.2.grown H6.out.2 hne⟩, by simp [RowKit.intOf]; omega⟩
      rw [HT.out, ← or_assoc_f]
      exact H6.out.1
     ·obtain rfl : j = bl.length := by omega
      have hs2 := HR.out.1
      rw [List.take_length] at hs2
      have HR2 := Hd (Ai hs2 HR.out.2)
      clear hs2 HR
      generalize wr = wA at *
      obtain ⟨ST2, hST2⟩ : ∃ ST2, ST2 = ST.or (firstF (adB cl) bl) := ⟨_, rfl⟩
      rw [← hST2] at HR2
      have HST2 := Hd hST2
      clear hST2
      go_wp2_with fail
      go_loopw [5] (fun s wr => ∃ j : Nat, j ≤ ks.length ∧ s = .int .i64 j ∧ SAt wr b (ST2.or (firstF (adE cl) (ks.take j))) (.slice ac cl.length cc) ∧ w.grownBy wr (some b) ∧ BoxW wr w.heap.size [.int .i64 8, .string (tx nm), .bool f, .int .u64 u, .slice (some ⟨gp, op, none⟩) ps.length cp, .slice ak ks.length ck, .slice ab bl.length cb, .slice aa al.length ca]) (fun s _ => ks.length - (RowKit.intOf s).toNat)
      case atStart => exact ⟨0, Nat.zero_le _, rfl, by rw [List.take_zero, show firstF (adE cl) [] = none from rfl, or_nil_l]; exact HR2.out.1, HR2.out.2.1, HR2.out.2.2⟩
      case round =>
       obtain ⟨j, hj, rfl, hs1, hg1, hb1⟩ := hrel
       have HR := Hd (Ai hs1 (Ai hg1 hb1))
       clear x4 x5 x6 x7
       have x4 := hb1.1 4 _ rfl
       have x5 := hb1.1 5 _ rfl
       have x6 := hb1.1 6 _ rfl
       have x7 := hb1.1 7 _ rfl
       clear hs1 hg1 hb1
       by_cases gj : j < ks.length
       ·have gj' : (j : Int) < (ks.length : Int) := by omega
        obtain ⟨k9, nm9, f9, u9, ap9, np9, cp9, ak9, nk9, ck9, ab9, nb9, cb9, aa9, na9, ca9, hE, hcs⟩ := HO.out.2.2.2.2.1.cells j gj
        obtain ⟨g1, o1, ea1, k1, m1', hgb, ht1⟩ := (HO.out.2.2.2.1.apart HR.out.2.1).at (by omega)
        subst ea1
        have HPx := Hd (fun i v h => ht1 _ _ (hcs i v h))
        have HT := Hd (show firstF (adE cl) (ks.take (j + 1)) = (firstF (adE cl) (ks.take j)).or (adE cl ks[j]) by rw [List.take_succ_eq_append_getElem gj, firstF_snoc])
        have HXp := Hd (hP ks[j] b (ST2.or (firstF (adE cl) (ks.take j))) cl ac cc wr k9 nm9 f9 u9 ap9 np9 cp9 ak9 nk9 ck9 ab9 nb9 cb9 aa9 na9 ca9 (HZ.out.2.1 _ (List.getElem_mem gj)) HR.out.1 (HO.out.1.apart HR.out.2.1) (hE.apart HR.out.2.1))
        clear ht1 hcs hE
        generalize ks[j] = tk at *
        have p0 : wr.cell? ⟨g1, o1 + j * 8, none⟩ = some (.int .i64 k9) := HPx.out 0 _ rfl
        have p1 := pa (HPx.out 1 _ rfl)
        have p2 := pa (HPx.out 2 _ rfl)
        have p3 := pa (HPx.out 3 _ rfl)
        have p4 := pa (HPx.out 4 _ rfl)
        have p5 := pa (HPx.out 5 _ rfl)
        have p6 := pa (HPx.out 6 _ rfl)
        have p7 := pa (HPx.out 7 _ rfl)
        have ej : IntKind.i64.wrap ((j : Int) + 1) = (j : Int) + 1 := by rw [IntKind.wrap_i64]; omega
        have b0 : (0 : Int) ≤ (j : Int) := by omega
        go_wp2_with fail
        refine HXp.out.mono ?_
        rintro e w6 ⟨rfl, hs6, hg6⟩
        have H6 := Hd (Ai hs6 hg6)
        clear hs6 hg6 HXp p0 p1 p2 p3 p4 p5 p6 p7 x4 x5 x6 x7
        go_wp2_with fail
        refine ⟨⟨j + 1, by omega, by go_num, ?_, Gt HR.out.2.1 H6.out.2, HR.out.2.2.grown H6.out.2 hne⟩, by simp [RowKit.intOf]; omega⟩
        rw [HT.out, ← or_assoc_f]
        exact H6.out.1
       ·obtain rfl : j = ks.length := by omega
        have hs2 := HR.out.1
        rw [List.take_length] at hs2
        have HR3 := Hd (Ai hs2 HR.out.2)
        clear hs2 HR HR2
        generalize wr = wB at *
        obtain ⟨ST3, hST3⟩ : ∃ ST3, ST3 = ST2.or (firstF (adE cl) ks) := ⟨_, rfl⟩
        rw [← hST3] at HR3
        have HST3 := Hd hST3
        clear hST3
        go_wp2_with fail
        go_loopw [6] (fun s wr => ∃ j : Nat, j ≤ al.length ∧ s = .int .i64 j ∧ SAt wr b (ST3.or (firstF (adA cl) (al.take j))) (.slice ac cl.length cc) ∧ w.grownBy wr (some b) ∧ BoxW wr w.heap.size [.int .i64 8, .string (tx nm), .bool f, .int .u64 u, .slice (some ⟨gp, op, none⟩) ps.length cp, .slice ak ks.length ck, .slice ab bl.length cb, .slice aa al.length ca]) (fun s _ => al.length - (RowKit.intOf s).toNat)
        case atStart => exact ⟨0, Nat.zero_le _, rfl, by rw [List.take_zero, show firstF (adA cl) [] = none from rfl, or_nil_l]; exact HR3.out.1, HR3.out.2.1, HR3.out.2.2⟩
        case round =>
         obtain ⟨j, hj, rfl, hs1, hg1, hb1⟩ := hrel
         have HR := Hd (Ai hs1 (Ai hg1 hb1))
         clear x4 x5 x6 x7
         have x4 := hb1.1 4 _ rfl
         have x5 := hb1.1 5 _ rfl
         have x6 := hb1.1 6 _ rfl
         have x7 := hb1.1 7 _ rfl
         clear hs1 hg1 hb1
         by_cases gj : j < al.length
         ·have gj' : (j : Int) < (al.length : Int) := by omega
          obtain ⟨aq9, cq9, k9, nm9, f9, u9, ap9, np9, cp9, ak9, nk9, ck9, ab9, nb9, cb9, aa9, na9, ca9, hQ, hE, hcs⟩ := HO.out.2.2.2.2.2.2.cells j gj
          obtain ⟨g1, o1, ea1, k1, m1', hgb, ht1⟩ := (HO.out.2.2.2.2.2.1.apart HR.out.2.1).at (by omega)
          subst ea1
          have HPx := Hd (fun i v h => ht1 _ _ (hcs i v h))
          have HT := Hd (show firstF (adA cl) (al.take (j + 1)) = (firstF (adA cl) (al.take j)).or (adA cl al[j]) by rw [List.take_succ_eq_append_getElem gj, firstF_snoc])
          have HZj := Hd (HZ.out.2.2 _ (List.getElem_mem gj))
          have HE := Hd (hE.apart HR.out.2.1)
          clear ht1 hcs hE
          obtain ⟨bx, hbx⟩ : ∃ bx, bx = al[j] := ⟨_, rfl⟩
          rw [← hbx] at HZj HT HPx HE
          clear hQ hbx
          obtain ⟨kd, nb0, fd, ud, ps0, body⟩ := bx
          replace HPx := Hd (show ∀ i v, [.int .i64 kd, .string (tx nb0), .bool fd, .int .u64 ud, .slice aq9 ps0.length cq9, .int .i64 k9, .string (tx nm9), .bool f9, .int .u64 u9, .slice ap9 np9 cp9, .slice ak9 nk9 ck9, .slice ab9 nb9 cb9, .slice aa9 na9 ca9][i]? = some v → wr.cell? ⟨g1, o1 + (j * 13 + i), none⟩ = some v from HPx.out)
          replace HE := Hd (show ExAt wr (Apart b) body [.int .i64 k9, .string (tx nm9), .bool f9, .int .u64 u9, .slice ap9 np9 cp9, .slice ak9 nk9 ck9, .slice ab9 nb9 cb9, .slice aa9 na9 ca9] from HE.out)
          replace HZj := Hd (show SizeOf.sizeOf body ≤ n from HZj.out)
          have p0 : wr.cell? ⟨g1, o1 + j * 13, none⟩ = some (.int .i64 kd) := HPx.out 0 _ rfl
          have p1 := pa (HPx.out 1 _ rfl)
          have p2 := pa (HPx.out 2 _ rfl)
          have p3 := pa (HPx.out 3 _ rfl)
          have p4 := pa (HPx.out 4 _ rfl)
          have p5 := pa (HPx.out 5 _ rfl)
          have p6 := pa (HPx.out 6 _ rfl)
          have p7 := pa (HPx.out 7 _ rfl)
          have p8 := pa (HPx.out 8 _ rfl)
          have p9 := pa (HPx.out 9 _ rfl)
          have p10 := pa (HPx.out 10 _ rfl)
          have p11 := pa (HPx.out 11 _ rfl)
          have p12 := pa (HPx.out 12 _ rfl)
          have ej : IntKind.i64.wrap ((j : Int) + 1) = (j : Int) + 1 := by rw [IntKind.wrap_i64]; omega
          have b0 : (0 : Int) ≤ (j : Int) := by omega
          by_cases g0 : kd = 0
          ·subst g0
           have HTa := Hd (show adA cl (0, nb0, fd, ud, ps0, body) = (countD cl nb0 ps0.length).or (adE cl body) by unfold adA; rw [if_pos rfl])
           have HCn := Hd (fun (V : World) (hbv : Below wr.heap.size wr V) => acount_any b (ST3.or (firstF (adA cl) (al.take j))) cl ac cc nb0 (ps0.length : Int) V (HR.out.1.later hbv) ((HO.out.1.apart HR.out.2.1).apartB hbv))
           go_wp2_with fail
           go_region_held3 (fun W' => W'.cell? ⟨w.heap.size, 7, none⟩ = some (.slice (some ⟨g1, o1, none⟩) al.length ca) ∧ W'.cell? ⟨g1, o1 + j * 13 + 1, none⟩ = some (.string (tx nb0)) ∧ W'.cell? ⟨g1, o1 + j * 13 + 4, none⟩ = some (.slice aq9 ps0.length cq9)) (first | exact ⟨v7, l1, l4⟩ | exact ⟨x7, p1, p4⟩ | go_keep) (first
             | (go_at_call 74
                refine (HCn.out _ ?hb).mono ?_
                case hb => exact Br.drew
                rintro e w5 ⟨rfl, hs5, hg5a⟩
                have hg5 : wr.grownBy w5 (some b) := Gt (grown_of (b := b) Br.drew) hg5a
                have v7 := hg5.cell x7 (by simpa using hne)
                have l1 := hg5.cell p1 (by simpa using hgb)
                have l4 := hg5.cell p4 (by simpa using hgb)))
           have H5 := Hd (Ai hs5 (Ai (Gt HR.out.2.1 hg5) (HR.out.2.2.grown hg5 hne)))
           have l5 := hg5.cell p5 (by simpa using hgb)
           have l6 := hg5.cell p6 (by simpa using hgb)
           have l7 := hg5.cell p7 (by simpa using hgb)
           have l8 := hg5.cell p8 (by simpa using hgb)
           have l9 := hg5.cell p9 (by simpa using hgb)
           have l10 := hg5.cell p10 (by simpa using hgb)
           have l11 := hg5.cell p11 (by simpa using hgb)
           have l12 := hg5.cell p12 (by simpa using hgb)
           have HXp := Hd (hP body b ((ST3.or (firstF (adA cl) (al.take j))).or (countD cl nb0 ps0.length)) cl ac cc w5 k9 nm9 f9 u9 ap9 np9 cp9 ak9 nk9 ck9 ab9 nb9 cb9 aa9 na9 ca9 HZj.out H5.out.1 (HO.out.1.apart H5.out.2.1) (HE.out.apart hg5))
           clear hs5 hg5 hg5a l1 l4 HCn p0 p1 p2 p3 p4 p5 p6 p7 p8 p9 p10 p11 p12 x4 x5 x6 x7
           go_wp2_with fail
           refine HXp.out.mono ?_
           rintro e w6 ⟨rfl, hs6, hg6⟩
           have H6 := Hd (Ai hs6 hg6)
           clear hs6 hg6 HXp v7 l5 l6 l7 l8 l9 l10 l11 l12
           go_wp2_with fail
           refine ⟨⟨j + 1, by omega, by go_num, ?_, Gt H5.out.2.1 H6.out.2, H5.out.2.2.grown H6.out.2 hne⟩, by simp [RowKit.intOf]; omega⟩
           rw [HT.out, HTa.out, ← or_assoc_f, ← or_assoc_f]
           exact H6.out.1
          ·have f0 : (kd == 0) = false := by simpa using g0
           have HTa := Hd (show adA cl (kd, nb0, fd, ud, ps0, body) = adE cl body by unfold adA; rw [if_neg g0]; rfl)
           have HXp := Hd (hP body b (ST3.or (firstF (adA cl) (al.take j))) cl ac cc wr k9 nm9 f9 u9 ap9 np9 cp9 ak9 nk9 ck9 ab9 nb9 cb9 aa9 na9 ca9 HZj.out HR.out.1 (HO.out.1.apart HR.out.2.1) HE.out)
           clear g0
           go_wp2_with fail
           refine HXp.out.mono ?_
           rintro e w6 ⟨rfl, hs6, hg6⟩
           have H6 := Hd (Ai hs6 hg6)
           clear hs6 hg6 HXp f0 p0 p1 p2 p3 p4 p5 p6 p7 p8 p9 p10 p11 p12 x4 x5 x6 x7
           go_wp2_with fail
           refine ⟨⟨j + 1, by omega, by go_num, ?_, Gt HR.out.2.1 H6.out.2, HR.out.2.2.grown H6.out.2 hne⟩, by simp [RowKit.intOf]; omega⟩
           rw [HT.out, HTa.out, ← or_assoc_f]
           exact H6.out.1
         ·obtain rfl : j = al.length := by omega
          have hs2 := HR.out.1
          rw [List.take_length] at hs2
          have HR4 := Hd (Ai hs2 HR.out.2.1)
          clear hs2
          go_wp2_with fail
          go_end0
          refine ⟨rfl, ?_, HR4.out.2⟩
          rw [HM.out, ← or_assoc_f, ← or_assoc_f, ← or_assoc_f, ← HST.out, ← HST2.out, ← HST3.out]
          exact HR4.out.1
   ·have g' : ¬ (24 : Int) < (ps.length : Int) := by omega
    have HH := Hd (show oneF (decide (24 < ps.length)) 12 (ps.headD []) = none by unfold oneF; rw [if_neg (by simpa using g)])
    rw [HH.out] at HM
    clear g HH
    have H3 := Hd (show SAt (w.alloc (.cells #[.int .i64 8, .string (tx nm), .bool f, .int .u64 u, .slice ap ps.length cp, .slice ak ks.length ck, .slice ab bl.length cb, .slice aa al.length ca] 57)) b (st.or none) (.slice ac cl.length cc) ∧ w.grownBy (w.alloc (.cells #[.int .i64 8, .string (tx nm), .bool f, .int .u64 u, .slice ap ps.length cp, .slice ak ks.length ck, .slice ab bl.length cb, .slice aa al.length ca] 57)) (some b) ∧ BoxW (w.alloc (.cells #[.int .i64 8, .string (tx nm), .bool f, .int .u64 u, .slice ap ps.length cp, .slice ak ks.length ck, .slice ab bl.length cb, .slice aa al.length ca] 57)) w.heap.size [.int .i64 8, .string (tx nm), .bool f, .int .u64 u, .slice ap ps.length cp, .slice ak ks.length ck, .slice ab bl.length cb, .slice aa al.length ca] by rw [or_nil_l]; exact HX.out)
    go_enter Tryz.func39, Tryz.ntmps39
    obtain ⟨ST, hST⟩ : ∃ ST, ST = st.or none := ⟨_, rfl⟩
    rw [← hST] at H3
    have HST := Hd hST
    clear hST
    have y4 := H3.out.2.2.1 4 _ rfl
    have y5 := H3.out.2.2.1 5 _ rfl
    have y6 := H3.out.2.2.1 6 _ rfl
    have y7 := H3.out.2.2.1 7 _ rfl
    go_wp2_with fail
    try clear g'
    try clear fz
    go_loopw [4] (fun s wr => ∃ j : Nat, j ≤ bl.length ∧ s = .int .i64 j ∧ SAt wr b (ST.or (firstF (adB cl) (bl.take j))) (.slice ac cl.length cc) ∧ w.grownBy wr (some b) ∧ BoxW wr w.heap.size [.int .i64 8, .string (tx nm), .bool f, .int .u64 u, .slice ap ps.length cp, .slice ak ks.length ck, .slice ab bl.length cb, .slice aa al.length ca]) (fun s _ => bl.length - (RowKit.intOf s).toNat)
    case atStart => exact ⟨0, Nat.zero_le _, rfl, by rw [List.take_zero, show firstF (adB cl) [] = none from rfl, or_nil_l]; exact H3.out.1, H3.out.2.1, H3.out.2.2⟩
    case round =>
     obtain ⟨j, hj, rfl, hs1, hg1, hb1⟩ := hrel
     have HR := Hd (Ai hs1 (Ai hg1 hb1))
     have x4 := hb1.1 4 _ rfl
     have x5 := hb1.1 5 _ rfl
     have x6 := hb1.1 6 _ rfl
     have x7 := hb1.1 7 _ rfl
     clear hs1 hg1 hb1 y4 y5 y6 y7
     by_cases gj : j < bl.length
     ·have gj' : (j : Int) < (bl.length : Int) := by omega
      obtain ⟨aq9, cq9, k9, nm9, f9, u9, ap9, np9, cp9, ak9, nk9, ck9, ab9, nb9, cb9, aa9, na9, ca9, hQ, hE, hcs⟩ := HO.out.2.2.1.cells j gj
      obtain ⟨g1, o1, ea1, k1, m1', hgb, ht1⟩ := (HO.out.2.1.apart HR.out.2.1).at (by omega)
      subst ea1
      have HPx := Hd (fun i v h => ht1 _ _ (hcs i v h))
      have HT := Hd (show firstF (adB cl) (bl.take (j + 1)) = (firstF (adB cl) (bl.take j)).or (adB cl bl[j]) by rw [List.take_succ_eq_append_getElem gj, firstF_snoc])
      have HXp := Hd (abind_any n hP b (ST.or (firstF (adB cl) (bl.take j))) cl ac cc bl[j].1 bl[j].2.1 bl[j].2.2 aq9 cq9 k9 nm9 f9 u9 ap9 np9 cp9 ak9 nk9 ck9 ab9 nb9 cb9 aa9 na9 ca9 wr (HZ.out.1 _ (List.getElem_mem gj)) hQ.cap HR.out.1 (HO.out.1.apart HR.out.2.1) (hE.apart HR.out.2.1))
      clear ht1 hcs hE hQ
      obtain ⟨bx, hbx⟩ : ∃ bx, bx = bl[j] := ⟨_, rfl⟩
      rw [← hbx] at HXp HT HPx
      clear hbx
      obtain ⟨nb0, ps0, body⟩ := bx
      replace HPx := Hd (show ∀ i v, [.string (tx nb0), .slice aq9 ps0.length cq9, .int .i64 k9, .string (tx nm9), .bool f9, .int .u64 u9, .slice ap9 np9 cp9, .slice ak9 nk9 ck9, .slice ab9 nb9 cb9, .slice aa9 na9 ca9][i]? = some v → wr.cell? ⟨g1, o1 + (j * 10 + i), none⟩ = some v from HPx.out)
      replace HXp := Hd (show Calls Tryz.prog 19 #[.pointer (some ⟨b, 0, none⟩), .agg #[.string (tx nb0), .slice aq9 ps0.length cq9, .int .i64 k9, .string (tx nm9), .bool f9, .int .u64 u9, .slice ap9 np9 cp9, .slice ak9 nk9 ck9, .slice ab9 nb9 cb9, .slice aa9 na9 ca9]] wr fun e w' => e = .returned (.tuple #[]) ∧ SAt w' b ((ST.or (firstF (adB cl) (bl.take j))).or (adB cl (nb0, ps0, body))) (.slice ac cl.length cc) ∧ wr.grownBy w' (some b) from HXp.out)
      have p0 : wr.cell? ⟨g1, o1 + j * 10, none⟩ = some (.string (tx nb0)) := HPx.out 0 _ rfl
      have p1 := pa (HPx.out 1 _ rfl)
      have p2 := pa (HPx.out 2 _ rfl)
      have p3 := pa (HPx.out 3 _ rfl)
      have p4 := pa (HPx.out 4 _ rfl)
      have p5 := pa (HPx.out 5 _ rfl)
      have p6 := pa (HPx.out 6 _ rfl)
      have p7 := pa (HPx.out 7 _ rfl)
      have p8 := pa (HPx.out 8 _ rfl)
      have p9 := pa (HPx.out 9 _ rfl)
      have ej : IntKind.i64.wrap ((j : Int) + 1) = (j : Int) + 1 := by rw [IntKind.wrap_i64]; omega
      have b0 : (0 : Int) ≤ (j : Int) := by omega
      go_wp2_with fail
      refine HXp.out.mono ?_
      rintro e w6 ⟨rfl, hs6, hg6⟩
      have H6 := Hd (Ai hs6 hg6)
      clear hs6 hg6 HXp p0 p1 p2 p3 p4 p5 p6 p7 p8 p9 x4 x5 x6 x7
      go_wp2_with fail
      refine ⟨⟨j + 1, by omega, by go_num, ?_, Gt HR.out.2.1 H6.out.2, HR.out.2.2.grown H6.out.2 hne⟩, by simp [RowKit.intOf]; omega⟩
      rw [HT.out, ← or_assoc_f]
      exact H6.out.1
     ·obtain rfl : j = bl.length := by omega
      have hs2 := HR.out.1
      rw [List.take_length] at hs2
      have HR2 := Hd (Ai hs2 HR.out.2)
      clear hs2 HR
      generalize wr = wA at *
      obtain ⟨ST2, hST2⟩ : ∃ ST2, ST2 = ST.or (firstF (adB cl) bl) := ⟨_, rfl⟩
      rw [← hST2] at HR2
      have HST2 := Hd hST2
      clear hST2
      go_wp2_with fail
      go_loopw [5] (fun s wr => ∃ j : Nat, j ≤ ks.length ∧ s = .int .i64 j ∧ SAt wr b (ST2.or (firstF (adE cl) (ks.take j))) (.slice ac cl.length cc) ∧ w.grownBy wr (some b) ∧ BoxW wr w.heap.size [.int .i64 8, .string (tx nm), .bool f, .int .u64 u, .slice ap ps.length cp, .slice ak ks.length ck, .slice ab bl.length cb, .slice aa al.length ca]) (fun s _ => ks.length - (RowKit.intOf s).toNat)
      case atStart => exact ⟨0, Nat.zero_le _, rfl, by rw [List.take_zero, show firstF (adE cl) [] = none from rfl, or_nil_l]; exact HR2.out.1, HR2.out.2.1, HR2.out.2.2⟩
      case round =>
       obtain ⟨j, hj, rfl, hs1, hg1, hb1⟩ := hrel
       have HR := Hd (Ai hs1 (Ai hg1 hb1))
       clear x4 x5 x6 x7
       have x4 := hb1.1 4 _ rfl
       have x5 := hb1.1 5 _ rfl
       have x6 := hb1.1 6 _ rfl
       have x7 := hb1.1 7 _ rfl
       clear hs1 hg1 hb1
       by_cases gj : j < ks.length
       ·have gj' : (j : Int) < (ks.length : Int) := by omega
        obtain ⟨k9, nm9, f9, u9, ap9, np9, cp9, ak9, nk9, ck9, ab9, nb9, cb9, aa9, na9, ca9, hE, hcs⟩ := HO.out.2.2.2.2.1.cells j gj
        obtain ⟨g1, o1, ea1, k1, m1', hgb, ht1⟩ := (HO.out.2.2.2.1.apart HR.out.2.1).at (by omega)
        subst ea1
        have HPx := Hd (fun i v h => ht1 _ _ (hcs i v h))
        have HT := Hd (show firstF (adE cl) (ks.take (j + 1)) = (firstF (adE cl) (ks.take j)).or (adE cl ks[j]) by rw [List.take_succ_eq_append_getElem gj, firstF_snoc])
        have HXp := Hd (hP ks[j] b (ST2.or (firstF (adE cl) (ks.take j))) cl ac cc wr k9 nm9 f9 u9 ap9 np9 cp9 ak9 nk9 ck9 ab9 nb9 cb9 aa9 na9 ca9 (HZ.out.2.1 _ (List.getElem_mem gj)) HR.out.1 (HO.out.1.apart HR.out.2.1) (hE.apart HR.out.2.1))
        clear ht1 hcs hE
        generalize ks[j] = tk at *
        have p0 : wr.cell? ⟨g1, o1 + j * 8, none⟩ = some (.int .i64 k9) := HPx.out 0 _ rfl
        have p1 := pa (HPx.out 1 _ rfl)
        have p2 := pa (HPx.out 2 _ rfl)
        have p3 := pa (HPx.out 3 _ rfl)
        have p4 := pa (HPx.out 4 _ rfl)
        have p5 := pa (HPx.out 5 _ rfl)
        have p6 := pa (HPx.out 6 _ rfl)
        have p7 := pa (HPx.out 7 _ rfl)
        have ej : IntKind.i64.wrap ((j : Int) + 1) = (j : Int) + 1 := by rw [IntKind.wrap_i64]; omega
        have b0 : (0 : Int) ≤ (j : Int) := by omega
        go_wp2_with fail
        refine HXp.out.mono ?_
        rintro e w6 ⟨rfl, hs6, hg6⟩
        have H6 := Hd (Ai hs6 hg6)
        clear hs6 hg6 HXp p0 p1 p2 p3 p4 p5 p6 p7 x4 x5 x6 x7
        go_wp2_with fail
        refine ⟨⟨j + 1, by omega, by go_num, ?_, Gt HR.out.2.1 H6.out.2, HR.out.2.2.grown H6.out.2 hne⟩, by simp [RowKit.intOf]; omega⟩
        rw [HT.out, ← or_assoc_f]
        exact H6.out.1
       ·obtain rfl : j = ks.length := by omega
        have hs2 := HR.out.1
        rw [List.take_length] at hs2
        have HR3 := Hd (Ai hs2 HR.out.2)
        clear hs2 HR HR2
        generalize wr = wB at *
        obtain ⟨ST3, hST3⟩ : ∃ ST3, ST3 = ST2.or (firstF (adE cl) ks) := ⟨_, rfl⟩
        rw [← hST3] at HR3
        have HST3 := Hd hST3
        clear hST3
        go_wp2_with fail
        go_loopw [6] (fun s wr => ∃ j : Nat, j ≤ al.length ∧ s = .int .i64 j ∧ SAt wr b (ST3.or (firstF (adA cl) (al.take j))) (.slice ac cl.length cc) ∧ w.grownBy wr (some b) ∧ BoxW wr w.heap.size [.int .i64 8, .string (tx nm), .bool f, .int .u64 u, .slice ap ps.length cp, .slice ak ks.length ck, .slice ab bl.length cb, .slice aa al.length ca]) (fun s _ => al.length - (RowKit.intOf s).toNat)
        case atStart => exact ⟨0, Nat.zero_le _, rfl, by rw [List.take_zero, show firstF (adA cl) [] = none from rfl, or_nil_l]; exact HR3.out.1, HR3.out.2.1, HR3.out.2.2⟩
        case round =>
         obtain ⟨j, hj, rfl, hs1, hg1, hb1⟩ := hrel
         have HR := Hd (Ai hs1 (Ai hg1 hb1))
         clear x4 x5 x6 x7
         have x4 := hb1.1 4 _ rfl
         have x5 := hb1.1 5 _ rfl
         have x6 := hb1.1 6 _ rfl
         have x7 := hb1.1 7 _ rfl
         clear hs1 hg1 hb1
         by_cases gj : j < al.length
         ·have gj' : (j : Int) < (al.length : Int) := by omega
          obtain ⟨aq9, cq9, k9, nm9, f9, u9, ap9, np9, cp9, ak9, nk9, ck9, ab9, nb9, cb9, aa9, na9, ca9, hQ, hE, hcs⟩ := HO.out.2.2.2.2.2.2.cells j gj
          obtain ⟨g1, o1, ea1, k1, m1', hgb, ht1⟩ := (HO.out.2.2.2.2.2.1.apart HR.out.2.1).at (by omega)
          subst ea1
          have HPx := Hd (fun i v h => ht1 _ _ (hcs i v h))
          have HT := Hd (show firstF (adA cl) (al.take (j + 1)) = (firstF (adA cl) (al.take j)).or (adA cl al[j]) by rw [List.take_succ_eq_append_getElem gj, firstF_snoc])
          have HZj := Hd (HZ.out.2.2 _ (List.getElem_mem gj))
          have HE := Hd (hE.apart HR.out.2.1)
          clear ht1 hcs hE
          obtain ⟨bx, hbx⟩ : ∃ bx, bx = al[j] := ⟨_, rfl⟩
          rw [← hbx] at HZj HT HPx HE
          clear hQ hbx
          obtain ⟨kd, nb0, fd, ud, ps0, body⟩ := bx
          replace HPx := Hd (show ∀ i v, [.int .i64 kd, .string (tx nb0), .bool fd, .int .u64 ud, .slice aq9 ps0.length cq9, .int .i64 k9, .string (tx nm9), .bool f9, .int .u64 u9, .slice ap9 np9 cp9, .slice ak9 nk9 ck9, .slice ab9 nb9 cb9, .slice aa9 na9 ca9][i]? = some v → wr.cell? ⟨g1, o1 + (j * 13 + i), none⟩ = some v from HPx.out)
          replace HE := Hd (show ExAt wr (Apart b) body [.int .i64 k9, .string (tx nm9), .bool f9, .int .u64 u9, .slice ap9 np9 cp9, .slice ak9 nk9 ck9, .slice ab9 nb9 cb9, .slice aa9 na9 ca9] from HE.out)
          replace HZj := Hd (show SizeOf.sizeOf body ≤ n from HZj.out)
          have p0 : wr.cell? ⟨g1, o1 + j * 13, none⟩ = some (.int .i64 kd) := HPx.out 0 _ rfl
          have p1 := pa (HPx.out 1 _ rfl)
          have p2 := pa (HPx.out 2 _ rfl)
          have p3 := pa (HPx.out 3 _ rfl)
          have p4 := pa (HPx.out 4 _ rfl)
          have p5 := pa (HPx.out 5 _ rfl)
          have p6 := pa (HPx.out 6 _ rfl)
          have p7 := pa (HPx.out 7 _ rfl)
          have p8 := pa (HPx.out 8 _ rfl)
          have p9 := pa (HPx.out 9 _ rfl)
          have p10 := pa (HPx.out 10 _ rfl)
          have p11 := pa (HPx.out 11 _ rfl)
          have p12 := pa (HPx.out 12 _ rfl)
          have ej : IntKind.i64.wrap ((j : Int) + 1) = (j : Int) + 1 := by rw [IntKind.wrap_i64]; omega
          have b0 : (0 : Int) ≤ (j : Int) := by omega
          by_cases g0 : kd = 0
          ·subst g0
           have HTa := Hd (show adA cl (0, nb0, fd, ud, ps0, body) = (countD cl nb0 ps0.length).or (adE cl body) by unfold adA; rw [if_pos rfl])
           have HCn := Hd (fun (V : World) (hbv : Below wr.heap.size wr V) => acount_any b (ST3.or (firstF (adA cl) (al.take j))) cl ac cc nb0 (ps0.length : Int) V (HR.out.1.later hbv) ((HO.out.1.apart HR.out.2.1).apartB hbv))
           go_wp2_with fail
           go_region_held3 (fun W' => W'.cell? ⟨w.heap.size, 7, none⟩ = some (.slice (some ⟨g1, o1, none⟩) al.length ca) ∧ W'.cell? ⟨g1, o1 + j * 13 + 1, none⟩ = some (.string (tx nb0)) ∧ W'.cell? ⟨g1, o1 + j * 13 + 4, none⟩ = some (.slice aq9 ps0.length cq9)) (first | exact ⟨v7, l1, l4⟩ | exact ⟨x7, p1, p4⟩ | go_keep) (first
             | (go_at_call 74
                refine (HCn.out _ ?hb).mono ?_
                case hb => exact Br.drew
                rintro e w5 ⟨rfl, hs5, hg5a⟩
                have hg5 : wr.grownBy w5 (some b) := Gt (grown_of (b := b) Br.drew) hg5a
                have v7 := hg5.cell x7 (by simpa using hne)
                have l1 := hg5.cell p1 (by simpa using hgb)
                have l4 := hg5.cell p4 (by simpa using hgb)))
           have H5 := Hd (Ai hs5 (Ai (Gt HR.out.2.1 hg5) (HR.out.2.2.grown hg5 hne)))
           have l5 := hg5.cell p5 (by simpa using hgb)
           have l6 := hg5.cell p6 (by simpa using hgb)
           have l7 := hg5.cell p7 (by simpa using hgb)
           have l8 := hg5.cell p8 (by simpa using hgb)
           have l9 := hg5.cell p9 (by simpa using hgb)
           have l10 := hg5.cell p10 (by simpa using hgb)
           have l11 := hg5.cell p11 (by simpa using hgb)
           have l12 := hg5.cell p12 (by simpa using hgb)
           have HXp := Hd (hP body b ((ST3.or (firstF (adA cl) (al.take j))).or (countD cl nb0 ps0.length)) cl ac cc w5 k9 nm9 f9 u9 ap9 np9 cp9 ak9 nk9 ck9 ab9 nb9 cb9 aa9 na9 ca9 HZj.out H5.out.1 (HO.out.1.apart H5.out.2.1) (HE.out.apart hg5))
           clear hs5 hg5 hg5a l1 l4 HCn p0 p1 p2 p3 p4 p5 p6 p7 p8 p9 p10 p11 p12 x4 x5 x6 x7
           go_wp2_with fail
           refine HXp.out.mono ?_
           rintro e w6 ⟨rfl, hs6, hg6⟩
           have H6 := Hd (Ai hs6 hg6)
           clear hs6 hg6 HXp v7 l5 l6 l7 l8 l9 l10 l11 l12
           go_wp2_with fail
           refine ⟨⟨j + 1, by omega, by go_num, ?_, Gt H5.out.2.1 H6.out.2, H5.out.2.2.grown H6.out.2 hne⟩, by simp [RowKit.intOf]; omega⟩
           rw [HT.out, HTa.out, ← or_assoc_f, ← or_assoc_f]
           exact H6.out.1
          ·have f0 : (kd == 0) = false := by simpa using g0
           have HTa := Hd (show adA cl (kd, nb0, fd, ud, ps0, body) = adE cl body by unfold adA; rw [if_neg g0]; rfl)
           have HXp := Hd (hP body b (ST3.or (firstF (adA cl) (al.take j))) cl ac cc wr k9 nm9 f9 u9 ap9 np9 cp9 ak9 nk9 ck9 ab9 nb9 cb9 aa9 na9 ca9 HZj.out HR.out.1 (HO.out.1.apart HR.out.2.1) HE.out)
           clear g0
           go_wp2_with fail
           refine HXp.out.mono ?_
           rintro e w6 ⟨rfl, hs6, hg6⟩
           have H6 := Hd (Ai hs6 hg6)
           clear hs6 hg6 HXp f0 p0 p1 p2 p3 p4 p5 p6 p7 p8 p9 p10 p11 p12 x4 x5 x6 x7
           go_wp2_with fail
           refine ⟨⟨j + 1, by omega, by go_num, ?_, Gt HR.out.2.1 H6.out.2, HR.out.2.2.grown H6.out.2 hne⟩, by simp [RowKit.intOf]; omega⟩
           rw [HT.out, HTa.out, ← or_assoc_f]
           exact H6.out.1
         ·obtain rfl : j = al.length := by omega
          have hs2 := HR.out.1
          rw [List.take_length] at hs2
          have HR4 := Hd (Ai hs2 HR.out.2.1)
          clear hs2
          go_wp2_with fail
          go_end0
          refine ⟨rfl, ?_, HR4.out.2⟩
          rw [HM.out, ← or_assoc_f, ← or_assoc_f, ← or_assoc_f, ← HST.out, ← HST2.out, ← HST3.out]
          exact HR4.out.1
  ·have hH : adH cl k nm ps ks.length = none := by unfold adH; rw [if_neg g2, if_neg g5, if_neg g4, if_neg g8]
   rw [hH] at HM
   clear hH
   have hx := (Below.refl w.heap.size w).alloc Nr (.cells #[.int .i64 k, .string (tx nm), .bool f, .int .u64 u, .slice ap ps.length cp, .slice ak ks.length ck, .slice ab bl.length cb, .slice aa al.length ca] 57)
   have hB := BoxW.alloc w #[.int .i64 k, .string (tx nm), .bool f, .int .u64 u, .slice ap ps.length cp, .slice ak ks.length ck, .slice ab bl.length cb, .slice aa al.length ca] 57
   have HX := Hd (Ai (hS.later hx) (Ai (grown_of (b := b) hx) hB))
   clear hS hx hB
   have f2 : (k == 2) = false := by simpa using g2
   have f5 : (k == 5) = false := by simpa using g5
   have f4 : (k == 4) = false := by simpa using g4
   have f8 : (k == 8) = false := by simpa using g8
   clear g2 g5 g4 g8
   have H3 := Hd (show SAt (w.alloc (.cells #[.int .i64 k, .string (tx nm), .bool f, .int .u64 u, .slice ap ps.length cp, .slice ak ks.length ck, .slice ab bl.length cb, .slice aa al.length ca] 57)) b (st.or none) (.slice ac cl.length cc) ∧ w.grownBy (w.alloc (.cells #[.int .i64 k, .string (tx nm), .bool f, .int .u64 u, .slice ap ps.length cp, .slice ak ks.length ck, .slice ab bl.length cb, .slice aa al.length ca] 57)) (some b) ∧ BoxW (w.alloc (.cells #[.int .i64 k, .string (tx nm), .bool f, .int .u64 u, .slice ap ps.length cp, .slice ak ks.length ck, .slice ab bl.length cb, .slice aa al.length ca] 57)) w.heap.size [.int .i64 k, .string (tx nm), .bool f, .int .u64 u, .slice ap ps.length cp, .slice ak ks.length ck, .slice ab bl.length cb, .slice aa al.length ca] by rw [or_nil_l]; exact HX.out)
   go_enter Tryz.func39, Tryz.ntmps39
   obtain ⟨ST, hST⟩ : ∃ ST, ST = st.or none := ⟨_, rfl⟩
   rw [← hST] at H3
   have HST := Hd hST
   clear hST
   have y4 := H3.out.2.2.1 4 _ rfl
   have y5 := H3.out.2.2.1 5 _ rfl
   have y6 := H3.out.2.2.1 6 _ rfl
   have y7 := H3.out.2.2.1 7 _ rfl
   go_wp2_with fail
   try clear g'
   try clear fz
   go_loopw [4] (fun s wr => ∃ j : Nat, j ≤ bl.length ∧ s = .int .i64 j ∧ SAt wr b (ST.or (firstF (adB cl) (bl.take j))) (.slice ac cl.length cc) ∧ w.grownBy wr (some b) ∧ BoxW wr w.heap.size [.int .i64 k, .string (tx nm), .bool f, .int .u64 u, .slice ap ps.length cp, .slice ak ks.length ck, .slice ab bl.length cb, .slice aa al.length ca]) (fun s _ => bl.length - (RowKit.intOf s).toNat)
   case atStart => exact ⟨0, Nat.zero_le _, rfl, by rw [List.take_zero, show firstF (adB cl) [] = none from rfl, or_nil_l]; exact H3.out.1, H3.out.2.1, H3.out.2.2⟩
   case round =>
    obtain ⟨j, hj, rfl, hs1, hg1, hb1⟩ := hrel
    have HR := Hd (Ai hs1 (Ai hg1 hb1))
    have x4 := hb1.1 4 _ rfl
    have x5 := hb1.1 5 _ rfl
    have x6 := hb1.1 6 _ rfl
    have x7 := hb1.1 7 _ rfl
    clear hs1 hg1 hb1 y4 y5 y6 y7
    by_cases gj : j < bl.length
    ·have gj' : (j : Int) < (bl.length : Int) := by omega
     obtain ⟨aq9, cq9, k9, nm9, f9, u9, ap9, np9, cp9, ak9, nk9, ck9, ab9, nb9, cb9, aa9, na9, ca9, hQ, hE, hcs⟩ := HO.out.2.2.1.cells j gj
     obtain ⟨g1, o1, ea1, k1, m1', hgb, ht1⟩ := (HO.out.2.1.apart HR.out.2.1).at (by omega)
     subst ea1
     have HPx := Hd (fun i v h => ht1 _ _ (hcs i v h))
     have HT := Hd (show firstF (adB cl) (bl.take (j + 1)) = (firstF (adB cl) (bl.take j)).or (adB cl bl[j]) by rw [List.take_succ_eq_append_getElem gj, firstF_snoc])
     have HXp := Hd (abind_any n hP b (ST.or (firstF (adB cl) (bl.take j))) cl ac cc bl[j].1 bl[j].2.1 bl[j].2.2 aq9 cq9 k9 nm9 f9 u9 ap9 np9 cp9 ak9 nk9 ck9 ab9 nb9 cb9 aa9 na9 ca9 wr (HZ.out.1 _ (List.getElem_mem gj)) hQ.cap HR.out.1 (HO.out.1.apart HR.out.2.1) (hE.apart HR.out.2.1))
     clear ht1 hcs hE hQ
     obtain ⟨bx, hbx⟩ : ∃ bx, bx = bl[j] := ⟨_, rfl⟩
     rw [← hbx] at HXp HT HPx
     clear hbx
     obtain ⟨nb0, ps0, body⟩ := bx
     replace HPx := Hd (show ∀ i v, [.string (tx nb0), .slice aq9 ps0.length cq9, .int .i64 k9, .string (tx nm9), .bool f9, .int .u64 u9, .slice ap9 np9 cp9, .slice ak9 nk9 ck9, .slice ab9 nb9 cb9, .slice aa9 na9 ca9][i]? = some v → wr.cell? ⟨g1, o1 + (j * 10 + i), none⟩ = some v from HPx.out)
     replace HXp := Hd (show Calls Tryz.prog 19 #[.pointer (some ⟨b, 0, none⟩), .agg #[.string (tx nb0), .slice aq9 ps0.length cq9, .int .i64 k9, .string (tx nm9), .bool f9, .int .u64 u9, .slice ap9 np9 cp9, .slice ak9 nk9 ck9, .slice ab9 nb9 cb9, .slice aa9 na9 ca9]] wr fun e w' => e = .returned (.tuple #[]) ∧ SAt w' b ((ST.or (firstF (adB cl) (bl.take j))).or (adB cl (nb0, ps0, body))) (.slice ac cl.length cc) ∧ wr.grownBy w' (some b) from HXp.out)
     have p0 : wr.cell? ⟨g1, o1 + j * 10, none⟩ = some (.string (tx nb0)) := HPx.out 0 _ rfl
     have p1 := pa (HPx.out 1 _ rfl)
     have p2 := pa (HPx.out 2 _ rfl)
     have p3 := pa (HPx.out 3 _ rfl)
     have p4 := pa (HPx.out 4 _ rfl)
     have p5 := pa (HPx.out 5 _ rfl)
     have p6 := pa (HPx.out 6 _ rfl)
     have p7 := pa (HPx.out 7 _ rfl)
     have p8 := pa (HPx.out 8 _ rfl)
     have p9 := pa (HPx.out 9 _ rfl)
     have ej : IntKind.i64.wrap ((j : Int) + 1) = (j : Int) + 1 := by rw [IntKind.wrap_i64]; omega
     have b0 : (0 : Int) ≤ (j : Int) := by omega
     go_wp2_with fail
     refine HXp.out.mono ?_
     rintro e w6 ⟨rfl, hs6, hg6⟩
     have H6 := Hd (Ai hs6 hg6)
     clear hs6 hg6 HXp p0 p1 p2 p3 p4 p5 p6 p7 p8 p9 x4 x5 x6 x7
     go_wp2_with fail
     refine ⟨⟨j + 1, by omega, by go_num, ?_, Gt HR.out.2.1 H6.out.2, HR.out.2.2.grown H6.out.2 hne⟩, by simp [RowKit.intOf]; omega⟩
     rw [HT.out, ← or_assoc_f]
     exact H6.out.1
    ·obtain rfl : j = bl.length := by omega
     have hs2 := HR.out.1
     rw [List.take_length] at hs2
     have HR2 := Hd (Ai hs2 HR.out.2)
     clear hs2 HR
     generalize wr = wA at *
     obtain ⟨ST2, hST2⟩ : ∃ ST2, ST2 = ST.or (firstF (adB cl) bl) := ⟨_, rfl⟩
     rw [← hST2] at HR2
     have HST2 := Hd hST2
     clear hST2
     go_wp2_with fail
     go_loopw [5] (fun s wr => ∃ j : Nat, j ≤ ks.length ∧ s = .int .i64 j ∧ SAt wr b (ST2.or (firstF (adE cl) (ks.take j))) (.slice ac cl.length cc) ∧ w.grownBy wr (some b) ∧ BoxW wr w.heap.size [.int .i64 k, .string (tx nm), .bool f, .int .u64 u, .slice ap ps.length cp, .slice ak ks.length ck, .slice ab bl.length cb, .slice aa al.length ca]) (fun s _ => ks.length - (RowKit.intOf s).toNat)
     case atStart => exact ⟨0, Nat.zero_le _, rfl, by rw [List.take_zero, show firstF (adE cl) [] = none from rfl, or_nil_l]; exact HR2.out.1, HR2.out.2.1, HR2.out.2.2⟩
     case round =>
      obtain ⟨j, hj, rfl, hs1, hg1, hb1⟩ := hrel
      have HR := Hd (Ai hs1 (Ai hg1 hb1))
      clear x4 x5 x6 x7
      have x4 := hb1.1 4 _ rfl
      have x5 := hb1.1 5 _ rfl
      have x6 := hb1.1 6 _ rfl
      have x7 := hb1.1 7 _ rfl
      clear hs1 hg1 hb1
      by_cases gj : j < ks.length
      ·have gj' : (j : Int) < (ks.length : Int) := by omega
       obtain ⟨k9, nm9, f9, u9, ap9, np9, cp9, ak9, nk9, ck9, ab9, nb9, cb9, aa9, na9, ca9, hE, hcs⟩ := HO.out.2.2.2.2.1.cells j gj
       obtain ⟨g1, o1, ea1, k1, m1', hgb, ht1⟩ := (HO.out.2.2.2.1.apart HR.out.2.1).at (by omega)
       subst ea1
       have HPx := Hd (fun i v h => ht1 _ _ (hcs i v h))
       have HT := Hd (show firstF (adE cl) (ks.take (j + 1)) = (firstF (adE cl) (ks.take j)).or (adE cl ks[j]) by rw [List.take_succ_eq_append_getElem gj, firstF_snoc])
       have HXp := Hd (hP ks[j] b (ST2.or (firstF (adE cl) (ks.take j))) cl ac cc wr k9 nm9 f9 u9 ap9 np9 cp9 ak9 nk9 ck9 ab9 nb9 cb9 aa9 na9 ca9 (HZ.out.2.1 _ (List.getElem_mem gj)) HR.out.1 (HO.out.1.apart HR.out.2.1) (hE.apart HR.out.2.1))
       clear ht1 hcs hE
       generalize ks[j] = tk at *
       have p0 : wr.cell? ⟨g1, o1 + j * 8, none⟩ = some (.int .i64 k9) := HPx.out 0 _ rfl
       have p1 := pa (HPx.out 1 _ rfl)
       have p2 := pa (HPx.out 2 _ rfl)
       have p3 := pa (HPx.out 3 _ rfl)
       have p4 := pa (HPx.out 4 _ rfl)
       have p5 := pa (HPx.out 5 _ rfl)
       have p6 := pa (HPx.out 6 _ rfl)
       have p7 := pa (HPx.out 7 _ rfl)
       have ej : IntKind.i64.wrap ((j : Int) + 1) = (j : Int) + 1 := by rw [IntKind.wrap_i64]; omega
       have b0 : (0 : Int) ≤ (j : Int) := by omega
       go_wp2_with fail
       refine HXp.out.mono ?_
       rintro e w6 ⟨rfl, hs6, hg6⟩
       have H6 := Hd (Ai hs6 hg6)
       clear hs6 hg6 HXp p0 p1 p2 p3 p4 p5 p6 p7 x4 x5 x6 x7
       go_wp2_with fail
       refine ⟨⟨j + 1, by omega, by go_num, ?_, Gt HR.out.2.1 H6.out.2, HR.out.2.2.grown H6.out.2 hne⟩, by simp [RowKit.intOf]; omega⟩
       rw [HT.out, ← or_assoc_f]
       exact H6.out.1
      ·obtain rfl : j = ks.length := by omega
       have hs2 := HR.out.1
       rw [List.take_length] at hs2
       have HR3 := Hd (Ai hs2 HR.out.2)
       clear hs2 HR HR2
       generalize wr = wB at *
       obtain ⟨ST3, hST3⟩ : ∃ ST3, ST3 = ST2.or (firstF (adE cl) ks) := ⟨_, rfl⟩
       rw [← hST3] at HR3
       have HST3 := Hd hST3
       clear hST3
       go_wp2_with fail
       go_loopw [6] (fun s wr => ∃ j : Nat, j ≤ al.length ∧ s = .int .i64 j ∧ SAt wr b (ST3.or (firstF (adA cl) (al.take j))) (.slice ac cl.length cc) ∧ w.grownBy wr (some b) ∧ BoxW wr w.heap.size [.int .i64 k, .string (tx nm), .bool f, .int .u64 u, .slice ap ps.length cp, .slice ak ks.length ck, .slice ab bl.length cb, .slice aa al.length ca]) (fun s _ => al.length - (RowKit.intOf s).toNat)
       case atStart => exact ⟨0, Nat.zero_le _, rfl, by rw [List.take_zero, show firstF (adA cl) [] = none from rfl, or_nil_l]; exact HR3.out.1, HR3.out.2.1, HR3.out.2.2⟩
       case round =>
        obtain ⟨j, hj, rfl, hs1, hg1, hb1⟩ := hrel
        have HR := Hd (Ai hs1 (Ai hg1 hb1))
        clear x4 x5 x6 x7
        have x4 := hb1.1 4 _ rfl
        have x5 := hb1.1 5 _ rfl
        have x6 := hb1.1 6 _ rfl
        have x7 := hb1.1 7 _ rfl
        clear hs1 hg1 hb1
        by_cases gj : j < al.length
        ·have gj' : (j : Int) < (al.length : Int) := by omega
         obtain ⟨aq9, cq9, k9, nm9, f9, u9, ap9, np9, cp9, ak9, nk9, ck9, ab9, nb9, cb9, aa9, na9, ca9, hQ, hE, hcs⟩ := HO.out.2.2.2.2.2.2.cells j gj
         obtain ⟨g1, o1, ea1, k1, m1', hgb, ht1⟩ := (HO.out.2.2.2.2.2.1.apart HR.out.2.1).at (by omega)
         subst ea1
         have HPx := Hd (fun i v h => ht1 _ _ (hcs i v h))
         have HT := Hd (show firstF (adA cl) (al.take (j + 1)) = (firstF (adA cl) (al.take j)).or (adA cl al[j]) by rw [List.take_succ_eq_append_getElem gj, firstF_snoc])
         have HZj := Hd (HZ.out.2.2 _ (List.getElem_mem gj))
         have HE := Hd (hE.apart HR.out.2.1)
         clear ht1 hcs hE
         obtain ⟨bx, hbx⟩ : ∃ bx, bx = al[j] := ⟨_, rfl⟩
         rw [← hbx] at HZj HT HPx HE
         clear hQ hbx
         obtain ⟨kd, nb0, fd, ud, ps0, body⟩ := bx
         replace HPx := Hd (show ∀ i v, [.int .i64 kd, .string (tx nb0), .bool fd, .int .u64 ud, .slice aq9 ps0.length cq9, .int .i64 k9, .string (tx nm9), .bool f9, .int .u64 u9, .slice ap9 np9 cp9, .slice ak9 nk9 ck9, .slice ab9 nb9 cb9, .slice aa9 na9 ca9][i]? = some v → wr.cell? ⟨g1, o1 + (j * 13 + i), none⟩ = some v from HPx.out)
         replace HE := Hd (show ExAt wr (Apart b) body [.int .i64 k9, .string (tx nm9), .bool f9, .int .u64 u9, .slice ap9 np9 cp9, .slice ak9 nk9 ck9, .slice ab9 nb9 cb9, .slice aa9 na9 ca9] from HE.out)
         replace HZj := Hd (show SizeOf.sizeOf body ≤ n from HZj.out)
         have p0 : wr.cell? ⟨g1, o1 + j * 13, none⟩ = some (.int .i64 kd) := HPx.out 0 _ rfl
         have p1 := pa (HPx.out 1 _ rfl)
         have p2 := pa (HPx.out 2 _ rfl)
         have p3 := pa (HPx.out 3 _ rfl)
         have p4 := pa (HPx.out 4 _ rfl)
         have p5 := pa (HPx.out 5 _ rfl)
         have p6 := pa (HPx.out 6 _ rfl)
         have p7 := pa (HPx.out 7 _ rfl)
         have p8 := pa (HPx.out 8 _ rfl)
         have p9 := pa (HPx.out 9 _ rfl)
         have p10 := pa (HPx.out 10 _ rfl)
         have p11 := pa (HPx.out 11 _ rfl)
         have p12 := pa (HPx.out 12 _ rfl)
         have ej : IntKind.i64.wrap ((j : Int) + 1) = (j : Int) + 1 := by rw [IntKind.wrap_i64]; omega
         have b0 : (0 : Int) ≤ (j : Int) := by omega
         by_cases g0 : kd = 0
         ·subst g0
          have HTa := Hd (show adA cl (0, nb0, fd, ud, ps0, body) = (countD cl nb0 ps0.length).or (adE cl body) by unfold adA; rw [if_pos rfl])
          have HCn := Hd (fun (V : World) (hbv : Below wr.heap.size wr V) => acount_any b (ST3.or (firstF (adA cl) (al.take j))) cl ac cc nb0 (ps0.length : Int) V (HR.out.1.later hbv) ((HO.out.1.apart HR.out.2.1).apartB hbv))
          go_wp2_with fail
          go_region_held3 (fun W' => W'.cell? ⟨w.heap.size, 7, none⟩ = some (.slice (some ⟨g1, o1, none⟩) al.length ca) ∧ W'.cell? ⟨g1, o1 + j * 13 + 1, none⟩ = some (.string (tx nb0)) ∧ W'.cell? ⟨g1, o1 + j * 13 + 4, none⟩ = some (.slice aq9 ps0.length cq9)) (first | exact ⟨v7, l1, l4⟩ | exact ⟨x7, p1, p4⟩ | go_keep) (first
            | (go_at_call 74
               refine (HCn.out _ ?hb).mono ?_
               case hb => exact Br.drew
               rintro e w5 ⟨rfl, hs5, hg5a⟩
               have hg5 : wr.grownBy w5 (some b) := Gt (grown_of (b := b) Br.drew) hg5a
               have v7 := hg5.cell x7 (by simpa using hne)
               have l1 := hg5.cell p1 (by simpa using hgb)
               have l4 := hg5.cell p4 (by simpa using hgb)))
          have H5 := Hd (Ai hs5 (Ai (Gt HR.out.2.1 hg5) (HR.out.2.2.grown hg5 hne)))
          have l5 := hg5.cell p5 (by simpa using hgb)
          have l6 := hg5.cell p6 (by simpa using hgb)
          have l7 := hg5.cell p7 (by simpa using hgb)
          have l8 := hg5.cell p8 (by simpa using hgb)
          have l9 := hg5.cell p9 (by simpa using hgb)
          have l10 := hg5.cell p10 (by simpa using hgb)
          have l11 := hg5.cell p11 (by simpa using hgb)
          have l12 := hg5.cell p12 (by simpa using hgb)
          have HXp := Hd (hP body b ((ST3.or (firstF (adA cl) (al.take j))).or (countD cl nb0 ps0.length)) cl ac cc w5 k9 nm9 f9 u9 ap9 np9 cp9 ak9 nk9 ck9 ab9 nb9 cb9 aa9 na9 ca9 HZj.out H5.out.1 (HO.out.1.apart H5.out.2.1) (HE.out.apart hg5))
          clear hs5 hg5 hg5a l1 l4 HCn p0 p1 p2 p3 p4 p5 p6 p7 p8 p9 p10 p11 p12 x4 x5 x6 x7
          go_wp2_with fail
          refine HXp.out.mono ?_
          rintro e w6 ⟨rfl, hs6, hg6⟩
          have H6 := Hd (Ai hs6 hg6)
          clear hs6 hg6 HXp v7 l5 l6 l7 l8 l9 l10 l11 l12
          go_wp2_with fail
          refine ⟨⟨j + 1, by omega, by go_num, ?_, Gt H5.out.2.1 H6.out.2, H5.out.2.2.grown H6.out.2 hne⟩, by simp [RowKit.intOf]; omega⟩
          rw [HT.out, HTa.out, ← or_assoc_f, ← or_assoc_f]
          exact H6.out.1
         ·have f0 : (kd == 0) = false := by simpa using g0
          have HTa := Hd (show adA cl (kd, nb0, fd, ud, ps0, body) = adE cl body by unfold adA; rw [if_neg g0]; rfl)
          have HXp := Hd (hP body b (ST3.or (firstF (adA cl) (al.take j))) cl ac cc wr k9 nm9 f9 u9 ap9 np9 cp9 ak9 nk9 ck9 ab9 nb9 cb9 aa9 na9 ca9 HZj.out HR.out.1 (HO.out.1.apart HR.out.2.1) HE.out)
          clear g0
          go_wp2_with fail
          refine HXp.out.mono ?_
          rintro e w6 ⟨rfl, hs6, hg6⟩
          have H6 := Hd (Ai hs6 hg6)
          clear hs6 hg6 HXp f0 p0 p1 p2 p3 p4 p5 p6 p7 p8 p9 p10 p11 p12 x4 x5 x6 x7
          go_wp2_with fail
          refine ⟨⟨j + 1, by omega, by go_num, ?_, Gt HR.out.2.1 H6.out.2, HR.out.2.2.grown H6.out.2 hne⟩, by simp [RowKit.intOf]; omega⟩
          rw [HT.out, HTa.out, ← or_assoc_f]
          exact H6.out.1
        ·obtain rfl : j = al.length := by omega
         have hs2 := HR.out.1
         rw [List.take_length] at hs2
         have HR4 := Hd (Ai hs2 HR.out.2.1)
         clear hs2
         go_wp2_with fail
         go_end0
         refine ⟨rfl, ?_, HR4.out.2⟩
         rw [HM.out, ← or_assoc_f, ← or_assoc_f, ← or_assoc_f, ← HST.out, ← HST2.out, ← HST3.out]
         exact HR4.out.1
theorem doca_all : ∀ n, DocA n
  | 0 => by
    intro x b st cl ac cc w k nm f u ap np cp ak nk ck ab nb cb aa na ca hz
    obtain ⟨k, n, f, x, ps, ks, bs, al⟩ := x
    simp only [Ex.mk.sizeOf_spec] at hz
    omega
  | n + 1 => doca_step n (doca_all n)
end Go.Proofs.YtdjcdecbmeickaaGreatDoor
