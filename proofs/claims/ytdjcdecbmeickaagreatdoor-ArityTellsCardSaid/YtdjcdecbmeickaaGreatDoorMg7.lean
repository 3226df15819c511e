import Derived.Test.YtdjcdecbmeickaaGreatDoorMg6
namespace Go.Proofs.YtdjcdecbmeickaaGreatDoor
set_option maxHeartbeats 64000000
set_option maxRecDepth 100000
open Go.RowKit Go.Lib
theorem doc_step (n : Nat) (hP : DocC n) : DocC (n + 1) := by
  intro x b st cl ac cc sc ai ci w k nm f u ap np cp ak nk ck ab nb cb aa na ca hz hw hn hS hc hi ht
  obtain ⟨ps, ks, bl, al, xk, xb, xa, rfl, rfl, rfl, rfl, rfl, hp, hk, hb, ha, tk, tb, ta⟩ := ht.opened
  have hN := NodeOk.of hz hw hn
  have hwt := hN.wt
  have hmk := hk.cap
  unfold maxLen at hmk
  have HNE := Hd (show w.heap.size ≠ b from fun e => by have := hS.lt; omega)
  have HLT := Hd hS.lt
  have HO := Hd (Ai hc (Ai hk (Ai tk (Ai ha ta))))
  have HO2 := Hd (Ai hp (Ai hb tb))
  clear hz hw hn ht hk tk ha ta hp hb tb hc
  have hx := (Below.refl w.heap.size w).alloc Nr (.cells #[.int .i64 k, .string (tx nm), .bool f, .int .u64 u, .slice ap ps.length cp, .slice ak ks.length ck, .slice ab bl.length cb, .slice aa al.length ca] 57)
  have hBx := BoxW.alloc w #[.int .i64 k, .string (tx nm), .bool f, .int .u64 u, .slice ap ps.length cp, .slice ak ks.length ck, .slice ab bl.length cb, .slice aa al.length ca] 57
  have HX := Hd (Ai hx hBx)
  have HS := Hd (Ai hS hi)
  clear hx hBx hS hi
  by_cases g1 : k = 1
  · subst g1
    have HSD := Hd (show sdE cl sc (.mk 1 nm f u ps ks bl al) = (hasF sc nm).or ((sdEs cl sc ks).or (sdAs cl sc al)) by unfold sdE; rw [if_pos rfl])
    have f1 : ((1 : Int) == 1) = true := rfl
    have f2 : ((1 : Int) == 2) = false := rfl
    have f6 : ((1 : Int) == 6) = false := rfl
    have f8 : ((1 : Int) == 8) = false := rfl
    go_enter Tryz.func72, Tryz.ntmps72
    go_upto_region 1 with fail
    generalize (w.alloc (.cells #[.int .i64 1, .string (tx nm), .bool f, .int .u64 u, .slice ap ps.length cp, .slice ak ks.length ck, .slice ab bl.length cb, .slice aa al.length ca] 57)) = W at *
    have c1 : W.cell? ⟨w.heap.size, 1, none⟩ = some (.string (tx nm)) := HX.out.2.1 1 _ rfl
    have c0 : W.cell? ⟨w.heap.size, 0, none⟩ = some (.int .i64 1) := HX.out.2.1 0 _ rfl
    have HI := Hd (in_any sc nm ai ci (Apart b) W (HS.out.2.apartB HX.out.1))
    go_wp2_with fail
    refine HI.out.mono ?_
    rintro e w2 ⟨rfl, hb2⟩
    have H2 := Hd (Ai (HS.out.1.later (onB' HX.out.1 hb2)) (Ai (onB' HX.out.1 hb2) (HX.out.2.below hb2)))
    have c1' := later' hb2 c1
    clear hb2 HI c0 c1
    by_cases gi : nm ∈ sc
    · rw [decide_eq_true gi]
      have hf : hasF sc nm = none := if_pos gi
      have HB := Hd (Ai H2.out.1 (Ai (grown_of (b := b) H2.out.2.1) (Ai (HS.out.2.apartB H2.out.2.1) H2.out.2.2)))
      go_wp2_with fail
      clear f1 f2 f6 f8 c1'
      go_loopw [7] (fun s wr => ∃ j : Nat, j ≤ ks.length ∧ s = .int .i64 j ∧ SAt wr b ((st).or (firstF (sdE cl sc) (ks.take j))) (.slice ac cl.length cc) ∧ w2.grownBy wr (some b)) (fun s _ => ks.length - (RowKit.intOf s).toNat)
      case atStart => exact ⟨0, Nat.zero_le _, rfl, by rw [List.take_zero, show firstF (sdE cl sc) [] = none from rfl, or_nil_l]; exact HB.out.1, grown_of Br⟩
      case round =>
        obtain ⟨j, hj, rfl, hs1, hg1⟩ := hrel
        have HR := Hd (Ai hs1 (Ai (Gt HB.out.2.1 hg1) (Ai (HB.out.2.2.1.apart hg1) (HB.out.2.2.2.grown hg1 HNE.out))))
        have HG1 := Hd hg1
        clear hs1 hg1
        have x5 : wr.cell? ⟨w.heap.size, 5, none⟩ = some (.slice ak ks.length ck) := HR.out.2.2.2.1 5 _ rfl
        have x7 : wr.cell? ⟨w.heap.size, 7, none⟩ = some (.slice aa al.length ca) := HR.out.2.2.2.1 7 _ rfl
        by_cases gj : j < ks.length
        · have gj' : (j : Int) < (ks.length : Int) := by omega
          obtain ⟨k9, nm9, f9, u9, ap9, np9, cp9, ak9, nk9, ck9, ab9, nb9, cb9, aa9, na9, ca9, hE, hcs⟩ := HO.out.2.2.1.cells j gj
          obtain ⟨g1, o1, ea1, k1, m1', hgb, ht1⟩ := (HO.out.2.1.apart HR.out.2.1).at (by omega)
          subst ea1
          have HP := Hd (fun i v h => ht1 _ _ (hcs i v h))
          have HT := Hd (show firstF (sdE cl sc) (ks.take (j + 1)) = (firstF (sdE cl sc) (ks.take j)).or (sdE cl sc ks[j]) by rw [List.take_succ_eq_append_getElem gj, firstF_snoc])
          have HXp := Hd (hP ks[j] b ((st).or (firstF (sdE cl sc) (ks.take j))) cl ac cc sc ai ci wr k9 nm9 f9 u9 ap9 np9 cp9 ak9 nk9 ck9 ab9 nb9 cb9 aa9 na9 ca9 (hN.sk _ (List.getElem_mem gj)) (hN.wk _ (List.getElem_mem gj)) (by have := sumN_mem wtE (List.getElem_mem gj); omega) HR.out.1 (HO.out.1.apart HR.out.2.1) HR.out.2.2.1 (hE.apart HR.out.2.1))
          clear ht1 hcs hE
          generalize ks[j] = tk at *
          have p0 : wr.cell? ⟨g1, o1 + j * 8, none⟩ = some (.int .i64 k9) := HP.out 0 _ rfl
          have p1 : wr.cell? ⟨g1, o1 + j * 8 + 1, none⟩ = some (.string (tx nm9)) := by rw [Nat.add_assoc]; exact HP.out 1 _ rfl
          have p2 : wr.cell? ⟨g1, o1 + j * 8 + 2, none⟩ = some (.bool f9) := by rw [Nat.add_assoc]; exact HP.out 2 _ rfl
          have p3 : wr.cell? ⟨g1, o1 + j * 8 + 3, none⟩ = some (.int .u64 u9) := by rw [Nat.add_assoc]; exact HP.out 3 _ rfl
          have p4 : wr.cell? ⟨g1, o1 + j * 8 + 4, none⟩ = some (.slice ap9 np9 cp9) := by rw [Nat.add_assoc]; exact HP.out 4 _ rfl
          have p5 : wr.cell? ⟨g1, o1 + j * 8 + 5, none⟩ = some (.slice ak9 nk9 ck9) := by rw [Nat.add_assoc]; exact HP.out 5 _ rfl
          have p6 : wr.cell? ⟨g1, o1 + j * 8 + 6, none⟩ = some (.slice ab9 nb9 cb9) := by rw [Nat.add_assoc]; exact HP.out 6 _ rfl
          have p7 : wr.cell? ⟨g1, o1 + j * 8 + 7, none⟩ = some (.slice aa9 na9 ca9) := by rw [Nat.add_assoc]; exact HP.out 7 _ rfl
          have ej : IntKind.i64.wrap ((j : Int) + 1) = (j : Int) + 1 := by rw [IntKind.wrap_i64]; omega
          have b0 : (0 : Int) ≤ (j : Int) := by omega
          go_wp2_with fail
          refine HXp.out.mono ?_
          rintro e w6 ⟨rfl, hs6, hg6⟩
          have H6 := Hd (Ai hs6 hg6)
          clear hs6 hg6 HXp p0 p1 p2 p3 p4 p5 p6 p7 x5 x7
          go_wp2_with fail
          refine ⟨⟨j + 1, by omega, by go_num, ?_, ?_⟩, by simp [RowKit.intOf]; omega⟩
          · rw [HT.out]
            have h := H6.out.1
            rwa [or_assoc_f] at h
          · exact Gt HG1.out H6.out.2
        · obtain rfl : j = ks.length := by omega
          have hs2 := HR.out.1
          rw [List.take_length] at hs2
          have HA := Hd (salts_any n hP b ((st).or (firstF (sdE cl sc) ks)) cl ac cc sc ai ci al hN.sa hN.wa (by omega) aa ca xa wr hs2 (HO.out.1.apart HR.out.2.1) HR.out.2.2.1 (HO.out.2.2.2.1.apart HR.out.2.1) (HO.out.2.2.2.2.move fun g hg lt => ⟨hg, HR.out.2.1.block g lt (by simpa using hg)⟩))
          clear hs2
          go_wp2_with fail
          refine HA.out.mono ?_
          rintro e w6 ⟨rfl, hs6, hg6⟩
          have H6 := Hd (Ai hs6 (Gt HR.out.2.1 hg6))
          clear hs6 hg6 HA x5 x7
          go_wp2_with fail
          go_end0
          refine ⟨rfl, ?_, H6.out.2⟩
          rw [HSD.out, hf, Option.none_or, ← or_assoc_f]
          have h := H6.out.1
          rw [← sdEs_first] at h
          exact h
    · rw [decide_eq_false gi]
      have hf : hasF sc nm = some (4, nm) := if_neg gi
      have HFl := Hd (sfault_any b st (.slice ac cl.length cc) 4 (by decide) nm w2 H2.out.1)
      go_wp2_with fail
      refine HFl.out.mono ?_
      rintro e w3 ⟨rfl, hs3, hg3⟩
      have hgw := Gt (grown_of (b := b) H2.out.2.1) hg3
      have HB := Hd (Ai hs3 (Ai hgw (Ai (HS.out.2.apart hgw) (H2.out.2.2.grown hg3 HNE.out))))
      clear hs3 hg3 hgw HFl c1'
      go_wp2_with fail
      clear f1 f2 f6 f8
      go_loopw [7] (fun s wr => ∃ j : Nat, j ≤ ks.length ∧ s = .int .i64 j ∧ SAt wr b ((st.or (some (4, nm))).or (firstF (sdE cl sc) (ks.take j))) (.slice ac cl.length cc) ∧ w3.grownBy wr (some b)) (fun s _ => ks.length - (RowKit.intOf s).toNat)
      case atStart => exact ⟨0, Nat.zero_le _, rfl, by rw [List.take_zero, show firstF (sdE cl sc) [] = none from rfl, or_nil_l]; exact HB.out.1, grown_of Br⟩
      case round =>
        obtain ⟨j, hj, rfl, hs1, hg1⟩ := hrel
        have HR := Hd (Ai hs1 (Ai (Gt HB.out.2.1 hg1) (Ai (HB.out.2.2.1.apart hg1) (HB.out.2.2.2.grown hg1 HNE.out))))
        have HG1 := Hd hg1
        clear hs1 hg1
        have x5 : wr.cell? ⟨w.heap.size, 5, none⟩ = some (.slice ak ks.length ck) := HR.out.2.2.2.1 5 _ rfl
        have x7 : wr.cell? ⟨w.heap.size, 7, none⟩ = some (.slice aa al.length ca) := HR.out.2.2.2.1 7 _ rfl
        by_cases gj : j < ks.length
        · have gj' : (j : Int) < (ks.length : Int) := by omega
          obtain ⟨k9, nm9, f9, u9, ap9, np9, cp9, ak9, nk9, ck9, ab9, nb9, cb9, aa9, na9, ca9, hE, hcs⟩ := HO.out.2.2.1.cells j gj
          obtain ⟨g1, o1, ea1, k1, m1', hgb, ht1⟩ := (HO.out.2.1.apart HR.out.2.1).at (by omega)
          subst ea1
          have HP := Hd (fun i v h => ht1 _ _ (hcs i v h))
          have HT := Hd (show firstF (sdE cl sc) (ks.take (j + 1)) = (firstF (sdE cl sc) (ks.take j)).or (sdE cl sc ks[j]) by rw [List.take_succ_eq_append_getElem gj, firstF_snoc])
          have HXp := Hd (hP ks[j] b ((st.or (some (4, nm))).or (firstF (sdE cl sc) (ks.take j))) cl ac cc sc ai ci wr k9 nm9 f9 u9 ap9 np9 cp9 ak9 nk9 ck9 ab9 nb9 cb9 aa9 na9 ca9 (hN.sk _ (List.getElem_mem gj)) (hN.wk _ (List.getElem_mem gj)) (by have := sumN_mem wtE (List.getElem_mem gj); omega) HR.out.1 (HO.out.1.apart HR.out.2.1) HR.out.2.2.1 (hE.apart HR.out.2.1))
          clear ht1 hcs hE
          generalize ks[j] = tk at *
          have p0 : wr.cell? ⟨g1, o1 + j * 8, none⟩ = some (.int .i64 k9) := HP.out 0 _ rfl
          have p1 : wr.cell? ⟨g1, o1 + j * 8 + 1, none⟩ = some (.string (tx nm9)) := by rw [Nat.add_assoc]; exact HP.out 1 _ rfl
          have p2 : wr.cell? ⟨g1, o1 + j * 8 + 2, none⟩ = some (.bool f9) := by rw [Nat.add_assoc]; exact HP.out 2 _ rfl
          have p3 : wr.cell? ⟨g1, o1 + j * 8 + 3, none⟩ = some (.int .u64 u9) := by rw [Nat.add_assoc]; exact HP.out 3 _ rfl
          have p4 : wr.cell? ⟨g1, o1 + j * 8 + 4, none⟩ = some (.slice ap9 np9 cp9) := by rw [Nat.add_assoc]; exact HP.out 4 _ rfl
          have p5 : wr.cell? ⟨g1, o1 + j * 8 + 5, none⟩ = some (.slice ak9 nk9 ck9) := by rw [Nat.add_assoc]; exact HP.out 5 _ rfl
          have p6 : wr.cell? ⟨g1, o1 + j * 8 + 6, none⟩ = some (.slice ab9 nb9 cb9) := by rw [Nat.add_assoc]; exact HP.out 6 _ rfl
          have p7 : wr.cell? ⟨g1, o1 + j * 8 + 7, none⟩ = some (.slice aa9 na9 ca9) := by rw [Nat.add_assoc]; exact HP.out 7 _ rfl
          have ej : IntKind.i64.wrap ((j : Int) + 1) = (j : Int) + 1 := by rw [IntKind.wrap_i64]; omega
          have b0 : (0 : Int) ≤ (j : Int) := by omega
          go_wp2_with fail
          refine HXp.out.mono ?_
          rintro e w6 ⟨rfl, hs6, hg6⟩
          have H6 := Hd (Ai hs6 hg6)
          clear hs6 hg6 HXp p0 p1 p2 p3 p4 p5 p6 p7 x5 x7
          go_wp2_with fail
          refine ⟨⟨j + 1, by omega, by go_num, ?_, ?_⟩, by simp [RowKit.intOf]; omega⟩
          · rw [HT.out]
            have h := H6.out.1
            rwa [or_assoc_f] at h
          · exact Gt HG1.out H6.out.2
        · obtain rfl : j = ks.length := by omega
          have hs2 := HR.out.1
          rw [List.take_length] at hs2
          have HA := Hd (salts_any n hP b ((st.or (some (4, nm))).or (firstF (sdE cl sc) ks)) cl ac cc sc ai ci al hN.sa hN.wa (by omega) aa ca xa wr hs2 (HO.out.1.apart HR.out.2.1) HR.out.2.2.1 (HO.out.2.2.2.1.apart HR.out.2.1) (HO.out.2.2.2.2.move fun g hg lt => ⟨hg, HR.out.2.1.block g lt (by simpa using hg)⟩))
          clear hs2
          go_wp2_with fail
          refine HA.out.mono ?_
          rintro e w6 ⟨rfl, hs6, hg6⟩
          have H6 := Hd (Ai hs6 (Gt HR.out.2.1 hg6))
          clear hs6 hg6 HA x5 x7
          go_wp2_with fail
          go_end0
          refine ⟨rfl, ?_, H6.out.2⟩
          rw [HSD.out, hf, ← or_assoc_f, ← or_assoc_f]
          have h := H6.out.1
          rw [← sdEs_first] at h
          exact h
  by_cases g2 : k = 2
  · subst g2
    have HSD := Hd (show sdE cl sc (.mk 2 nm f u ps ks bl al) = (hasF cl nm).or ((sdEs cl sc ks).or (sdAs cl sc al)) by unfold sdE; rw [if_neg (by decide), if_pos rfl])
    have f1 : ((2 : Int) == 1) = false := rfl
    have f2 : ((2 : Int) == 2) = true := rfl
    have f6 : ((2 : Int) == 6) = false := rfl
    have f8 : ((2 : Int) == 8) = false := rfl
    go_enter Tryz.func72, Tryz.ntmps72
    go_upto_region 1 with fail
    generalize (w.alloc (.cells #[.int .i64 2, .string (tx nm), .bool f, .int .u64 u, .slice ap ps.length cp, .slice ak ks.length ck, .slice ab bl.length cb, .slice aa al.length ca] 57)) = W at *
    have c1 : W.cell? ⟨w.heap.size, 1, none⟩ = some (.string (tx nm)) := HX.out.2.1 1 _ rfl
    have c0 : W.cell? ⟨w.heap.size, 0, none⟩ = some (.int .i64 2) := HX.out.2.1 0 _ rfl
    have HI := Hd (scon_any b st cl ac cc (Apart b) nm W (HS.out.1.later HX.out.1) (HO.out.1.apartB HX.out.1))
    go_wp2_with fail
    refine HI.out.mono ?_
    rintro e w2 ⟨rfl, hs3, hg3⟩
    have hgw := Gt (grown_of (b := b) HX.out.1) hg3
    have HB := Hd (Ai hs3 (Ai hgw (Ai (HS.out.2.apart hgw) (HX.out.2.grown hg3 HNE.out))))
    clear hs3 hg3 hgw HI c0 c1
    go_wp2_with fail
    clear f1 f2 f6 f8
    go_loopw [7] (fun s wr => ∃ j : Nat, j ≤ ks.length ∧ s = .int .i64 j ∧ SAt wr b ((st.or (hasF cl nm)).or (firstF (sdE cl sc) (ks.take j))) (.slice ac cl.length cc) ∧ w2.grownBy wr (some b)) (fun s _ => ks.length - (RowKit.intOf s).toNat)
    case atStart => exact ⟨0, Nat.zero_le _, rfl, by rw [List.take_zero, show firstF (sdE cl sc) [] = none from rfl, or_nil_l]; exact HB.out.1, grown_of Br⟩
    case round =>
      obtain ⟨j, hj, rfl, hs1, hg1⟩ := hrel
      have HR := Hd (Ai hs1 (Ai (Gt HB.out.2.1 hg1) (Ai (HB.out.2.2.1.apart hg1) (HB.out.2.2.2.grown hg1 HNE.out))))
      have HG1 := Hd hg1
      clear hs1 hg1
      have x5 : wr.cell? ⟨w.heap.size, 5, none⟩ = some (.slice ak ks.length ck) := HR.out.2.2.2.1 5 _ rfl
      have x7 : wr.cell? ⟨w.heap.size, 7, none⟩ = some (.slice aa al.length ca) := HR.out.2.2.2.1 7 _ rfl
      by_cases gj : j < ks.length
      · have gj' : (j : Int) < (ks.length : Int) := by omega
        obtain ⟨k9, nm9, f9, u9, ap9, np9, cp9, ak9, nk9, ck9, ab9, nb9, cb9, aa9, na9, ca9, hE, hcs⟩ := HO.out.2.2.1.cells j gj
        obtain ⟨g1, o1, ea1, k1, m1', hgb, ht1⟩ := (HO.out.2.1.apart HR.out.2.1).at (by omega)
        subst ea1
        have HP := Hd (fun i v h => ht1 _ _ (hcs i v h))
        have HT := Hd (show firstF (sdE cl sc) (ks.take (j + 1)) = (firstF (sdE cl sc) (ks.take j)).or (sdE cl sc ks[j]) by rw [List.take_succ_eq_append_getElem gj, firstF_snoc])
        have HXp := Hd (hP ks[j] b ((st.or (hasF cl nm)).or (firstF (sdE cl sc) (ks.take j))) cl ac cc sc ai ci wr k9 nm9 f9 u9 ap9 np9 cp9 ak9 nk9 ck9 ab9 nb9 cb9 aa9 na9 ca9 (hN.sk _ (List.getElem_mem gj)) (hN.wk _ (List.getElem_mem gj)) (by have := sumN_mem wtE (List.getElem_mem gj); omega) HR.out.1 (HO.out.1.apart HR.out.2.1) HR.out.2.2.1 (hE.apart HR.out.2.1))
        clear ht1 hcs hE
        generalize ks[j] = tk at *
        have p0 : wr.cell? ⟨g1, o1 + j * 8, none⟩ = some (.int .i64 k9) := HP.out 0 _ rfl
        have p1 : wr.cell? ⟨g1, o1 + j * 8 + 1, none⟩ = some (.string (tx nm9)) := by rw [Nat.add_assoc]; exact HP.out 1 _ rfl
        have p2 : wr.cell? ⟨g1, o1 + j * 8 + 2, none⟩ = some (.bool f9) := by rw [Nat.add_assoc]; exact HP.out 2 _ rfl
        have p3 : wr.cell? ⟨g1, o1 + j * 8 + 3, none⟩ = some (.int .u64 u9) := by rw [Nat.add_assoc]; exact HP.out 3 _ rfl
        have p4 : wr.cell? ⟨g1, o1 + j * 8 + 4, none⟩ = some (.slice ap9 np9 cp9) := by rw [Nat.add_assoc]; exact HP.out 4 _ rfl
        have p5 : wr.cell? ⟨g1, o1 + j * 8 + 5, none⟩ = some (.slice ak9 nk9 ck9) := by rw [Nat.add_assoc]; exact HP.out 5 _ rfl
        have p6 : wr.cell? ⟨g1, o1 + j * 8 + 6, none⟩ = some (.slice ab9 nb9 cb9) := by rw [Nat.add_assoc]; exact HP.out 6 _ rfl
        have p7 : wr.cell? ⟨g1, o1 + j * 8 + 7, none⟩ = some (.slice aa9 na9 ca9) := by rw [Nat.add_assoc]; exact HP.out 7 _ rfl
        have ej : IntKind.i64.wrap ((j : Int) + 1) = (j : Int) + 1 := by rw [IntKind.wrap_i64]; omega
        have b0 : (0 : Int) ≤ (j : Int) := by omega
        go_wp2_with fail
        refine HXp.out.mono ?_
        rintro e w6 ⟨rfl, hs6, hg6⟩
        have H6 := Hd (Ai hs6 hg6)
        clear hs6 hg6 HXp p0 p1 p2 p3 p4 p5 p6 p7 x5 x7
        go_wp2_with fail
        refine ⟨⟨j + 1, by omega, by go_num, ?_, ?_⟩, by simp [RowKit.intOf]; omega⟩
        · rw [HT.out]
          have h := H6.out.1
          rwa [or_assoc_f] at h
        · exact Gt HG1.out H6.out.2
      · obtain rfl : j = ks.length := by omega
        have hs2 := HR.out.1
        rw [List.take_length] at hs2
        have HA := Hd (salts_any n hP b ((st.or (hasF cl nm)).or (firstF (sdE cl sc) ks)) cl ac cc sc ai ci al hN.sa hN.wa (by omega) aa ca xa wr hs2 (HO.out.1.apart HR.out.2.1) HR.out.2.2.1 (HO.out.2.2.2.1.apart HR.out.2.1) (HO.out.2.2.2.2.move fun g hg lt => ⟨hg, HR.out.2.1.block g lt (by simpa using hg)⟩))
        clear hs2
        go_wp2_with fail
        refine HA.out.mono ?_
        rintro e w6 ⟨rfl, hs6, hg6⟩
        have H6 := Hd (Ai hs6 (Gt HR.out.2.1 hg6))
        clear hs6 hg6 HA x5 x7
        go_wp2_with fail
        go_end0
        refine ⟨rfl, ?_, H6.out.2⟩
        rw [HSD.out, ← or_assoc_f, ← or_assoc_f]
        have h := H6.out.1
        rw [← sdEs_first] at h
        exact h
  by_cases g6 : k = 6
  · subst g6
    have HSD := Hd (show sdE cl sc (.mk 6 nm f u ps ks bl al) = (twF (bNames bl)).or ((sdBs cl (sc ++ bNames bl) bl).or ((sdEs cl (sc ++ bNames bl) ks).or (sdAs cl (sc ++ bNames bl) al))) by unfold sdE; rw [if_neg (by decide), if_neg (by decide), if_pos rfl])
    have f1 : ((6 : Int) == 1) = false := rfl
    have f2 : ((6 : Int) == 2) = false := rfl
    have f6 : ((6 : Int) == 6) = true := rfl
    have f8 : ((6 : Int) == 8) = false := rfl
    have hlb := sumN_len nB (fun b => by unfold nB; omega) bl
    have HNL := Hd (bNames_len bl)
    go_enter Tryz.func72, Tryz.ntmps72
    go_upto_region 1 with fail
    generalize (w.alloc (.cells #[.int .i64 6, .string (tx nm), .bool f, .int .u64 u, .slice ap ps.length cp, .slice ak ks.length ck, .slice ab bl.length cb, .slice aa al.length ca] 57)) = W at *
    have c6 : W.cell? ⟨w.heap.size, 6, none⟩ = some (.slice ab bl.length cb) := HX.out.2.1 6 _ rfl
    have c0 : W.cell? ⟨w.heap.size, 0, none⟩ = some (.int .i64 6) := HX.out.2.1 0 _ rfl
    have HI := Hd (snames_any bl ab cb (Apart b) (Apart b) xb W (by omega) (HO2.out.2.1.apartB HX.out.1) (HO2.out.2.2.move fun g hg lt => ⟨hg, HX.out.1.block g lt⟩))
    go_wp2_with fail
    refine HI.out.mono ?_
    rintro e w2 ⟨⟨v, rfl, ho⟩, hb2⟩
    rw [← HNL.out] at ho
    obtain ⟨av, cv, rfl, -⟩ := own_shape ho
    have H2 := Hd (Ai (HS.out.1.later (onB' HX.out.1 hb2)) (Ai (onB' HX.out.1 hb2) (Ai (HX.out.2.below hb2) (RowAt.of (K := Apart b) ho (fun g hg => by show g ≠ b; have h1 := HLT.out; have h2 := HX.out.1.size; omega)))))
    have c6' := later' hb2 c6
    clear hb2 HI c0 c6 ho
    have HTw := Hd (stwice_any b st (.slice ac cl.length cc) (bNames bl) av cv (Apart b) (fun _ h => h) w2 H2.out.1 H2.out.2.2.2)
    go_wp2_with fail
    refine HTw.out.mono ?_
    rintro e w3 ⟨rfl, hs3, hg3⟩
    have hgw := Gt (grown_of (b := b) H2.out.2.1) hg3
    have H3 := Hd (Ai hs3 (Ai hgw (Ai (HS.out.2.apart hgw) (Ai (H2.out.2.2.1.grown hg3 HNE.out) (H2.out.2.2.2.apart hg3)))))
    have c6'' := hg3.cell c6' (by simpa using HNE.out)
    clear hs3 hg3 hgw HTw c6'
    have hwt2 : sc.length + (bNames bl).length ≤ 100000 := by rw [HNL.out]; omega
    obtain ⟨sc2, hsc2⟩ : ∃ sc2, sc2 = sc ++ bNames bl := ⟨_, rfl⟩
    have hwt3 : sc2.length = sc.length + bl.length := by rw [hsc2, List.length_append, HNL.out]
    have hwt4 : sc2.length + (ps.length + sumN wtE ks + sumN nB bl + sumN nA al) ≤ 100000 := by omega
    clear hwt3
    have HJ := Hd (join_here b sc (bNames bl) ai ci av cv hwt2 w3 w3 Br H3.out.2.2.1 (Apart b) H3.out.2.2.2.2)
    rw [← hsc2] at HJ HSD
    clear hsc2 hwt2
    go_wp2_with fail
    refine HJ.out.mono ?_
    rintro e w4 ⟨⟨a2, c2, rfl, ho⟩, hb4⟩
    have hgw := Gt H3.out.2.1 (grown_of (b := b) hb4)
    have H4 := Hd (Ai (H3.out.1.later hb4) (Ai hgw (Ai (ho H3.out.1.lt) (H3.out.2.2.2.1.below hb4))))
    have c6 := later' hb4 c6''
    clear hgw hb4 ho HJ c6''
    have HBs := Hd (sbinds_any n hP b (st.or (twF (bNames bl))) cl ac cc sc2 a2 c2 bl hN.sb hN.wb (by omega) ab cb xb w4 H4.out.1 (HO.out.1.apart H4.out.2.1) H4.out.2.2.1 (HO2.out.2.1.apart H4.out.2.1) (HO2.out.2.2.move fun g hg lt => ⟨hg, H4.out.2.1.block g lt (by simpa using hg)⟩))
    go_wp2_with fail
    refine HBs.out.mono ?_
    rintro e w5 ⟨rfl, hs5, hg5⟩
    have HB := Hd (Ai hs5 (Ai (Gt H4.out.2.1 hg5) (Ai (H4.out.2.2.1.apart hg5) (H4.out.2.2.2.grown hg5 HNE.out))))
    clear hs5 hg5 HBs c6
    go_wp2_with fail
    clear f1 f2 f6 f8
    go_loopw [7] (fun s wr => ∃ j : Nat, j ≤ ks.length ∧ s = .int .i64 j ∧ SAt wr b (((st.or (twF (bNames bl))).or (sdBs cl sc2 bl)).or (firstF (sdE cl sc2) (ks.take j))) (.slice ac cl.length cc) ∧ w5.grownBy wr (some b)) (fun s _ => ks.length - (RowKit.intOf s).toNat)
    case atStart => exact ⟨0, Nat.zero_le _, rfl, by rw [List.take_zero, show firstF (sdE cl sc2) [] = none from rfl, or_nil_l]; exact HB.out.1, grown_of Br⟩
    case round =>
      obtain ⟨j, hj, rfl, hs1, hg1⟩ := hrel
      have HR := Hd (Ai hs1 (Ai (Gt HB.out.2.1 hg1) (Ai (HB.out.2.2.1.apart hg1) (HB.out.2.2.2.grown hg1 HNE.out))))
      have HG1 := Hd hg1
      clear hs1 hg1
      have x5 : wr.cell? ⟨w.heap.size, 5, none⟩ = some (.slice ak ks.length ck) := HR.out.2.2.2.1 5 _ rfl
      have x7 : wr.cell? ⟨w.heap.size, 7, none⟩ = some (.slice aa al.length ca) := HR.out.2.2.2.1 7 _ rfl
      by_cases gj : j < ks.length
      · have gj' : (j : Int) < (ks.length : Int) := by omega
        obtain ⟨k9, nm9, f9, u9, ap9, np9, cp9, ak9, nk9, ck9, ab9, nb9, cb9, aa9, na9, ca9, hE, hcs⟩ := HO.out.2.2.1.cells j gj
        obtain ⟨g1, o1, ea1, k1, m1', hgb, ht1⟩ := (HO.out.2.1.apart HR.out.2.1).at (by omega)
        subst ea1
        have HP := Hd (fun i v h => ht1 _ _ (hcs i v h))
        have HT := Hd (show firstF (sdE cl sc2) (ks.take (j + 1)) = (firstF (sdE cl sc2) (ks.take j)).or (sdE cl sc2 ks[j]) by rw [List.take_succ_eq_append_getElem gj, firstF_snoc])
        have HXp := Hd (hP ks[j] b (((st.or (twF (bNames bl))).or (sdBs cl sc2 bl)).or (firstF (sdE cl sc2) (ks.take j))) cl ac cc sc2 a2 c2 wr k9 nm9 f9 u9 ap9 np9 cp9 ak9 nk9 ck9 ab9 nb9 cb9 aa9 na9 ca9 (hN.sk _ (List.getElem_mem gj)) (hN.wk _ (List.getElem_mem gj)) (by have := sumN_mem wtE (List.getElem_mem gj); omega) HR.out.1 (HO.out.1.apart HR.out.2.1) HR.out.2.2.1 (hE.apart HR.out.2.1))
        clear ht1 hcs hE
        generalize ks[j] = tk at *
        have p0 : wr.cell? ⟨g1, o1 + j * 8, none⟩ = some (.int .i64 k9) := HP.out 0 _ rfl
        have p1 : wr.cell? ⟨g1, o1 + j * 8 + 1, none⟩ = some (.string (tx nm9)) := by rw [Nat.add_assoc]; exact HP.out 1 _ rfl
        have p2 : wr.cell? ⟨g1, o1 + j * 8 + 2, none⟩ = some (.bool f9) := by rw [Nat.add_assoc]; exact HP.out 2 _ rfl
        have p3 : wr.cell? ⟨g1, o1 + j * 8 + 3, none⟩ = some (.int .u64 u9) := by rw [Nat.add_assoc]; exact HP.out 3 _ rfl
        have p4 : wr.cell? ⟨g1, o1 + j * 8 + 4, none⟩ = some (.slice ap9 np9 cp9) := by rw [Nat.add_assoc]; exact HP.out 4 _ rfl
        have p5 : wr.cell? ⟨g1, o1 + j * 8 + 5, none⟩ = some (.slice ak9 nk9 ck9) := by rw [Nat.add_assoc]; exact HP.out 5 _ rfl
        have p6 : wr.cell? ⟨g1, o1 + j * 8 + 6, none⟩ = some (.slice ab9 nb9 cb9) := by rw [Nat.add_assoc]; exact HP.out 6 _ rfl
        have p7 : wr.cell? ⟨g1, o1 + j * 8 + 7, none⟩ = some (.slice aa9 na9 ca9) := by rw [Nat.add_assoc]; exact HP.out 7 _ rfl
        have ej : IntKind.i64.wrap ((j : Int) + 1) = (j : Int) + 1 := by rw [IntKind.wrap_i64]; omega
        have b0 : (0 : Int) ≤ (j : Int) := by omega
        go_wp2_with fail
        refine HXp.out.mono ?_
        rintro e w6 ⟨rfl, hs6, hg6⟩
        have H6 := Hd (Ai hs6 hg6)
        clear hs6 hg6 HXp p0 p1 p2 p3 p4 p5 p6 p7 x5 x7
        go_wp2_with fail
        refine ⟨⟨j + 1, by omega, by go_num, ?_, ?_⟩, by simp [RowKit.intOf]; omega⟩
        · rw [HT.out]
          have h := H6.out.1
          rwa [or_assoc_f] at h
        · exact Gt HG1.out H6.out.2
      · obtain rfl : j = ks.length := by omega
        have hs2 := HR.out.1
        rw [List.take_length] at hs2
        have HA := Hd (salts_any n hP b (((st.or (twF (bNames bl))).or (sdBs cl sc2 bl)).or (firstF (sdE cl sc2) ks)) cl ac cc sc2 a2 c2 al hN.sa hN.wa (by omega) aa ca xa wr hs2 (HO.out.1.apart HR.out.2.1) HR.out.2.2.1 (HO.out.2.2.2.1.apart HR.out.2.1) (HO.out.2.2.2.2.move fun g hg lt => ⟨hg, HR.out.2.1.block g lt (by simpa using hg)⟩))
        clear hs2
        go_wp2_with fail
        refine HA.out.mono ?_
        rintro e w6 ⟨rfl, hs6, hg6⟩
        have H6 := Hd (Ai hs6 (Gt HR.out.2.1 hg6))
        clear hs6 hg6 HA x5 x7
        go_wp2_with fail
        go_end0
        refine ⟨rfl, ?_, H6.out.2⟩
        rw [HSD.out, ← or_assoc_f, ← or_assoc_f, ← or_assoc_f]
        have h := H6.out.1
        rw [← sdEs_first] at h
        exact h
  by_cases g8 : k = 8
  · subst g8
    have HSD := Hd (show sdE cl sc (.mk 8 nm f u ps ks bl al) = (twF ps).or ((sdEs cl (sc ++ ps) ks).or (sdAs cl (sc ++ ps) al)) by unfold sdE; rw [if_neg (by decide), if_neg (by decide), if_neg (by decide), if_pos rfl])
    have f1 : ((8 : Int) == 1) = false := rfl
    have f2 : ((8 : Int) == 2) = false := rfl
    have f6 : ((8 : Int) == 6) = false := rfl
    have f8 : ((8 : Int) == 8) = true := rfl
    go_enter Tryz.func72, Tryz.ntmps72
    go_upto_region 1 with fail
    generalize (w.alloc (.cells #[.int .i64 8, .string (tx nm), .bool f, .int .u64 u, .slice ap ps.length cp, .slice ak ks.length ck, .slice ab bl.length cb, .slice aa al.length ca] 57)) = W at *
    have c4 : W.cell? ⟨w.heap.size, 4, none⟩ = some (.slice ap ps.length cp) := HX.out.2.1 4 _ rfl
    have c0 : W.cell? ⟨w.heap.size, 0, none⟩ = some (.int .i64 8) := HX.out.2.1 0 _ rfl
    have HTw := Hd (stwice_any b st (.slice ac cl.length cc) ps ap cp (Apart b) (fun _ h => h) W (HS.out.1.later HX.out.1) (HO2.out.1.apartB HX.out.1))
    go_wp2_with fail
    refine HTw.out.mono ?_
    rintro e w3 ⟨rfl, hs3, hg3⟩
    have hgw := Gt (grown_of (b := b) HX.out.1) hg3
    have H3 := Hd (Ai hs3 (Ai hgw (Ai (HS.out.2.apart hgw) (Ai (HX.out.2.grown hg3 HNE.out) (HO2.out.1.apart hgw)))))
    have c4' := hg3.cell c4 (by simpa using HNE.out)
    clear hs3 hg3 hgw HTw c4 c0
    have hwt2 : sc.length + ps.length ≤ 100000 := by omega
    obtain ⟨sc2, hsc2⟩ : ∃ sc2, sc2 = sc ++ ps := ⟨_, rfl⟩
    have hwt3 : sc2.length = sc.length + ps.length := by rw [hsc2, List.length_append]
    have hwt4 : sc2.length + (sumN wtE ks + sumN nB bl + sumN nA al) ≤ 100000 := by omega
    clear hwt3
    have HJ := Hd (join_here b sc ps ai ci ap cp hwt2 w3 w3 Br H3.out.2.2.1 (Apart b) H3.out.2.2.2.2)
    rw [← hsc2] at HJ HSD
    clear hsc2 hwt2
    go_wp2_with fail
    refine HJ.out.mono ?_
    rintro e w4 ⟨⟨a2, c2, rfl, ho⟩, hb4⟩
    have hgw := Gt H3.out.2.1 (grown_of (b := b) hb4)
    have HB := Hd (Ai (H3.out.1.later hb4) (Ai hgw (Ai (ho H3.out.1.lt) (H3.out.2.2.2.1.below hb4))))
    clear hgw hb4 ho HJ c4'
    go_wp2_with fail
    clear f1 f2 f6 f8
    go_loopw [7] (fun s wr => ∃ j : Nat, j ≤ ks.length ∧ s = .int .i64 j ∧ SAt wr b ((st.or (twF ps)).or (firstF (sdE cl sc2) (ks.take j))) (.slice ac cl.length cc) ∧ w4.grownBy wr (some b)) (fun s _ => ks.length - (RowKit.intOf s).toNat)
    case atStart => exact ⟨0, Nat.zero_le _, rfl, by rw [List.take_zero, show firstF (sdE cl sc2) [] = none from rfl, or_nil_l]; exact HB.out.1, grown_of Br⟩
    case round =>
      obtain ⟨j, hj, rfl, hs1, hg1⟩ := hrel
      have HR := Hd (Ai hs1 (Ai (Gt HB.out.2.1 hg1) (Ai (HB.out.2.2.1.apart hg1) (HB.out.2.2.2.grown hg1 HNE.out))))
      have HG1 := Hd hg1
      clear hs1 hg1
      have x5 : wr.cell? ⟨w.heap.size, 5, none⟩ = some (.slice ak ks.length ck) := HR.out.2.2.2.1 5 _ rfl
      have x7 : wr.cell? ⟨w.heap.size, 7, none⟩ = some (.slice aa al.length ca) := HR.out.2.2.2.1 7 _ rfl
      by_cases gj : j < ks.length
      · have gj' : (j : Int) < (ks.length : Int) := by omega
        obtain ⟨k9, nm9, f9, u9, ap9, np9, cp9, ak9, nk9, ck9, ab9, nb9, cb9, aa9, na9, ca9, hE, hcs⟩ := HO.out.2.2.1.cells j gj
        obtain ⟨g1, o1, ea1, k1, m1', hgb, ht1⟩ := (HO.out.2.1.apart HR.out.2.1).at (by omega)
        subst ea1
        have HP := Hd (fun i v h => ht1 _ _ (hcs i v h))
        have HT := Hd (show firstF (sdE cl sc2) (ks.take (j + 1)) = (firstF (sdE cl sc2) (ks.take j)).or (sdE cl sc2 ks[j]) by rw [List.take_succ_eq_append_getElem gj, firstF_snoc])
        have HXp := Hd (hP ks[j] b ((st.or (twF ps)).or (firstF (sdE cl sc2) (ks.take j))) cl ac cc sc2 a2 c2 wr k9 nm9 f9 u9 ap9 np9 cp9 ak9 nk9 ck9 ab9 nb9 cb9 aa9 na9 ca9 (hN.sk _ (List.getElem_mem gj)) (hN.wk _ (List.getElem_mem gj)) (by have := sumN_mem wtE (List.getElem_mem gj); omega) HR.out.1 (HO.out.1.apart HR.out.2.1) HR.out.2.2.1 (hE.apart HR.out.2.1))
        clear ht1 hcs hE
        generalize ks[j] = tk at *
        have p0 : wr.cell? ⟨g1, o1 + j * 8, none⟩ = some (.int .i64 k9) := HP.out 0 _ rfl
        have p1 : wr.cell? ⟨g1, o1 + j * 8 + 1, none⟩ = some (.string (tx nm9)) := by rw [Nat.add_assoc]; exact HP.out 1 _ rfl
        have p2 : wr.cell? ⟨g1, o1 + j * 8 + 2, none⟩ = some (.bool f9) := by rw [Nat.add_assoc]; exact HP.out 2 _ rfl
        have p3 : wr.cell? ⟨g1, o1 + j * 8 + 3, none⟩ = some (.int .u64 u9) := by rw [Nat.add_assoc]; exact HP.out 3 _ rfl
        have p4 : wr.cell? ⟨g1, o1 + j * 8 + 4, none⟩ = some (.slice ap9 np9 cp9) := by rw [Nat.add_assoc]; exact HP.out 4 _ rfl
        have p5 : wr.cell? ⟨g1, o1 + j * 8 + 5, none⟩ = some (.slice ak9 nk9 ck9) := by rw [Nat.add_assoc]; exact HP.out 5 _ rfl
        have p6 : wr.cell? ⟨g1, o1 + j * 8 + 6, none⟩ = some (.slice ab9 nb9 cb9) := by rw [Nat.add_assoc]; exact HP.out 6 _ rfl
        have p7 : wr.cell? ⟨g1, o1 + j * 8 + 7, none⟩ = some (.slice aa9 na9 ca9) := by rw [Nat.add_assoc]; exact HP.out 7 _ rfl
        have ej : IntKind.i64.wrap ((j : Int) + 1) = (j : Int) + 1 := by rw [IntKind.wrap_i64]; omega
        have b0 : (0 : Int) ≤ (j : Int) := by omega
        go_wp2_with fail
        refine HXp.out.mono ?_
        rintro e w6 ⟨rfl, hs6, hg6⟩
        have H6 := Hd (Ai hs6 hg6)
        clear hs6 hg6 HXp p0 p1 p2 p3 p4 p5 p6 p7 x5 x7
        go_wp2_with fail
        refine ⟨⟨j + 1, by omega, by go_num, ?_, ?_⟩, by simp [RowKit.intOf]; omega⟩
        · rw [HT.out]
          have h := H6.out.1
          rwa [or_assoc_f] at h
        · exact Gt HG1.out H6.out.2
      · obtain rfl : j = ks.length := by omega
        have hs2 := HR.out.1
        rw [List.take_length] at hs2
        have HA := Hd (salts_any n hP b ((st.or (twF ps)).or (firstF (sdE cl sc2) ks)) cl ac cc sc2 a2 c2 al hN.sa hN.wa (by omega) aa ca xa wr hs2 (HO.out.1.apart HR.out.2.1) HR.out.2.2.1 (HO.out.2.2.2.1.apart HR.out.2.1) (HO.out.2.2.2.2.move fun g hg lt => ⟨hg, HR.out.2.1.block g lt (by simpa using hg)⟩))
        clear hs2
        go_wp2_with fail
        refine HA.out.mono ?_
        rintro e w6 ⟨rfl, hs6, hg6⟩
        have H6 := Hd (Ai hs6 (Gt HR.out.2.1 hg6))
        clear hs6 hg6 HA x5 x7
        go_wp2_with fail
        go_end0
        refine ⟨rfl, ?_, H6.out.2⟩
        rw [HSD.out, ← or_assoc_f, ← or_assoc_f]
        have h := H6.out.1
        rw [← sdEs_first] at h
        exact h
  · have HSD := Hd (show sdE cl sc (.mk k nm f u ps ks bl al) = (sdEs cl sc ks).or (sdAs cl sc al) by unfold sdE; rw [if_neg g1, if_neg g2, if_neg g6, if_neg g8])
    have f1 : (k == 1) = false := by simpa using g1
    have f2 : (k == 2) = false := by simpa using g2
    have f6 : (k == 6) = false := by simpa using g6
    have f8 : (k == 8) = false := by simpa using g8
    have HB := Hd (Ai (HS.out.1.later HX.out.1) (Ai (grown_of (b := b) HX.out.1) (Ai (HS.out.2.apartB HX.out.1) HX.out.2)))
    go_enter Tryz.func72, Tryz.ntmps72
    go_upto_region 1 with fail
    generalize (w.alloc (.cells #[.int .i64 k, .string (tx nm), .bool f, .int .u64 u, .slice ap ps.length cp, .slice ak ks.length ck, .slice ab bl.length cb, .slice aa al.length ca] 57)) = W at *
    have c0 : W.cell? ⟨w.heap.size, 0, none⟩ = some (.int .i64 k) := HX.out.2.1 0 _ rfl
    go_wp2_with fail
    clear c0
    clear f1 f2 f6 f8
    go_loopw [7] (fun s wr => ∃ j : Nat, j ≤ ks.length ∧ s = .int .i64 j ∧ SAt wr b ((st).or (firstF (sdE cl sc) (ks.take j))) (.slice ac cl.length cc) ∧ W.grownBy wr (some b)) (fun s _ => ks.length - (RowKit.intOf s).toNat)
    case atStart => exact ⟨0, Nat.zero_le _, rfl, by rw [List.take_zero, show firstF (sdE cl sc) [] = none from rfl, or_nil_l]; exact HB.out.1, grown_of Br⟩
    case round =>
      obtain ⟨j, hj, rfl, hs1, hg1⟩ := hrel
      have HR := Hd (Ai hs1 (Ai (Gt HB.out.2.1 hg1) (Ai (HB.out.2.2.1.apart hg1) (HB.out.2.2.2.grown hg1 HNE.out))))
      have HG1 := Hd hg1
      clear hs1 hg1
      have x5 : wr.cell? ⟨w.heap.size, 5, none⟩ = some (.slice ak ks.length ck) := HR.out.2.2.2.1 5 _ rfl
      have x7 : wr.cell? ⟨w.heap.size, 7, none⟩ = some (.slice aa al.length ca) := HR.out.2.2.2.1 7 _ rfl
      by_cases gj : j < ks.length
      · have gj' : (j : Int) < (ks.length : Int) := by omega
        obtain ⟨k9, nm9, f9, u9, ap9, np9, cp9, ak9, nk9, ck9, ab9, nb9, cb9, aa9, na9, ca9, hE, hcs⟩ := HO.out.2.2.1.cells j gj
        obtain ⟨g1, o1, ea1, k1, m1', hgb, ht1⟩ := (HO.out.2.1.apart HR.out.2.1).at (by omega)
        subst ea1
        have HP := Hd (fun i v h => ht1 _ _ (hcs i v h))
        have HT := Hd (show firstF (sdE cl sc) (ks.take (j + 1)) = (firstF (sdE cl sc) (ks.take j)).or (sdE cl sc ks[j]) by rw [List.take_succ_eq_append_getElem gj, firstF_snoc])
        have HXp := Hd (hP ks[j] b ((st).or (firstF (sdE cl sc) (ks.take j))) cl ac cc sc ai ci wr k9 nm9 f9 u9 ap9 np9 cp9 ak9 nk9 ck9 ab9 nb9 cb9 aa9 na9 ca9 (hN.sk _ (List.getElem_mem gj)) (hN.wk _ (List.getElem_mem gj)) (by have := sumN_mem wtE (List.getElem_mem gj); omega) HR.out.1 (HO.out.1.apart HR.out.2.1) HR.out.2.2.1 (hE.apart HR.out.2.1))
        clear ht1 hcs hE
        generalize ks[j] = tk at *
        have p0 : wr.cell? ⟨g1, o1 + j * 8, none⟩ = some (.int .i64 k9) := HP.out 0 _ rfl
        have p1 : wr.cell? ⟨g1, o1 + j * 8 + 1, none⟩ = some (.string (tx nm9)) := by rw [Nat.add_assoc]; exact HP.out 1 _ rfl
        have p2 : wr.cell? ⟨g1, o1 + j * 8 + 2, none⟩ = some (.bool f9) := by rw [Nat.add_assoc]; exact HP.out 2 _ rfl
        have p3 : wr.cell? ⟨g1, o1 + j * 8 + 3, none⟩ = some (.int .u64 u9) := by rw [Nat.add_assoc]; exact HP.out 3 _ rfl
        have p4 : wr.cell? ⟨g1, o1 + j * 8 + 4, none⟩ = some (.slice ap9 np9 cp9) := by rw [Nat.add_assoc]; exact HP.out 4 _ rfl
        have p5 : wr.cell? ⟨g1, o1 + j * 8 + 5, none⟩ = some (.slice ak9 nk9 ck9) := by rw [Nat.add_assoc]; exact HP.out 5 _ rfl
        have p6 : wr.cell? ⟨g1, o1 + j * 8 + 6, none⟩ = some (.slice ab9 nb9 cb9) := by rw [Nat.add_assoc]; exact HP.out 6 _ rfl
        have p7 : wr.cell? ⟨g1, o1 + j * 8 + 7, none⟩ = some (.slice aa9 na9 ca9) := by rw [Nat.add_assoc]; exact HP.out 7 _ rfl
        have ej : IntKind.i64.wrap ((j : Int) + 1) = (j : Int) + 1 := by rw [IntKind.wrap_i64]; omega
        have b0 : (0 : Int) ≤ (j : Int) := by omega
        go_wp2_with fail
        refine HXp.out.mono ?_
        rintro e w6 ⟨rfl, hs6, hg6⟩
        have H6 := Hd (Ai hs6 hg6)
        clear hs6 hg6 HXp p0 p1 p2 p3 p4 p5 p6 p7 x5 x7
        go_wp2_with fail
        refine ⟨⟨j + 1, by omega, by go_num, ?_, ?_⟩, by simp [RowKit.intOf]; omega⟩
        · rw [HT.out]
          have h := H6.out.1
          rwa [or_assoc_f] at h
        · exact Gt HG1.out H6.out.2
      · obtain rfl : j = ks.length := by omega
        have hs2 := HR.out.1
        rw [List.take_length] at hs2
        have HA := Hd (salts_any n hP b ((st).or (firstF (sdE cl sc) ks)) cl ac cc sc ai ci al hN.sa hN.wa (by omega) aa ca xa wr hs2 (HO.out.1.apart HR.out.2.1) HR.out.2.2.1 (HO.out.2.2.2.1.apart HR.out.2.1) (HO.out.2.2.2.2.move fun g hg lt => ⟨hg, HR.out.2.1.block g lt (by simpa using hg)⟩))
        clear hs2
        go_wp2_with fail
        refine HA.out.mono ?_
        rintro e w6 ⟨rfl, hs6, hg6⟩
        have H6 := Hd (Ai hs6 (Gt HR.out.2.1 hg6))
        clear hs6 hg6 HA x5 x7
        go_wp2_with fail
        go_end0
        refine ⟨rfl, ?_, H6.out.2⟩
        rw [HSD.out, ← or_assoc_f]
        have h := H6.out.1
        rw [← sdEs_first] at h
        exact h
theorem doc_all : ∀ n, DocC n
  | 0 => by
    intro x b st cl ac cc sc ai ci W k nm f u ap np cp ak nk ck ab nb cb aa na ca hz
    obtain ⟨k, n, f, x, ps, ks, bs, al⟩ := x
    simp only [Ex.mk.sizeOf_spec] at hz
    omega
  | n + 1 => doc_step n (doc_all n)
theorem plc_step (n : Nat) (hP : PlcC n) : PlcC (n + 1) := by
  intro x K w bc nc cs bs ns sc k nm f u ap np cp ak nk ck ab nb cb aa na ca hz hw hn hc hs ht
  obtain ⟨ps, ks, bl, al, xk, xb, xa, rfl, rfl, rfl, rfl, rfl, hp, hk, hb, ha, tk, tb, ta⟩ := ht.opened
  have hN := NodeOk.of hz hw hn
  have hwt := hN.wt
  clear hz hw hn ht
  by_cases g1 : k = 1
  · have hsc : scE cs sc (.mk k nm f u ps ks bl al) = hasF sc nm := by unfold scE; rw [if_pos g1]
    rw [hsc, g1]
    have hx1 := (Below.refl w.heap.size w).alloc Nr (.cells #[.map (some bc), .map (some bs)] 131)
    have hx := hx1.alloc hx1.size (.cells #[.int .i64 1, .string (tx nm), .bool f, .int .u64 u, .slice ap ps.length cp, .slice ak ks.length ck, .slice ab bl.length cb, .slice aa al.length ca] 57)
    have hB1 := (BoxW.alloc w #[.map (some bc), .map (some bs)] 131).below (Br.alloc Nr (.cells #[.int .i64 1, .string (tx nm), .bool f, .int .u64 u, .slice ap ps.length cp, .slice ak ks.length ck, .slice ab bl.length cb, .slice aa al.length ca] 57))
    have hB2 := BoxW.alloc (w.alloc (.cells #[.map (some bc), .map (some bs)] 131)) #[.int .i64 1, .string (tx nm), .bool f, .int .u64 u, .slice ap ps.length cp, .slice ak ks.length ck, .slice ab bl.length cb, .slice aa al.length ca] 57
    rw [show (w.alloc (.cells #[.map (some bc), .map (some bs)] 131)).heap.size = w.heap.size + 1 by simp] at hB2
    have HF := Hd (nfault_any bs ns sc nm (hN.wn (Or.inl g1)).2 ((w.alloc (.cells #[.map (some bc), .map (some bs)] 131)).alloc (.cells #[.int .i64 1, .string (tx nm), .bool f, .int .u64 u, .slice ap ps.length cp, .slice ak ks.length ck, .slice ab bl.length cb, .slice aa al.length ca] 57)) (hs.later hx))
    have HX := Hd hx
    have hmf := func_made
    clear hx hx1 hB1 hB2 hc hs hp hk hb ha tk tb ta
    go_enter Tryz.func96, Tryz.ntmps96
    go_wp2_with fail
    refine HF.out.mono ?_
    rintro e w3 ⟨rfl, hb3⟩
    have HB3 := Hd (onB' HX.out hb3)
    clear hb3 HF
    go_wp2_with fail
    go_ret
    exact ⟨rfl, HB3.out⟩
  by_cases g2 : k = 2
  · have hsc : scE cs sc (.mk k nm f u ps ks bl al) = (hasF cs nm).or (scEs cs sc ks) := by unfold scE; rw [if_neg g1, if_pos g2]
    rw [hsc, g2]
    have hx1 := (Below.refl w.heap.size w).alloc Nr (.cells #[.map (some bc), .map (some bs)] 131)
    have hx := hx1.alloc hx1.size (.cells #[.int .i64 2, .string (tx nm), .bool f, .int .u64 u, .slice ap ps.length cp, .slice ak ks.length ck, .slice ab bl.length cb, .slice aa al.length ca] 57)
    have hB1 := (BoxW.alloc w #[.map (some bc), .map (some bs)] 131).below (Br.alloc Nr (.cells #[.int .i64 2, .string (tx nm), .bool f, .int .u64 u, .slice ap ps.length cp, .slice ak ks.length ck, .slice ab bl.length cb, .slice aa al.length ca] 57))
    have hB2 := BoxW.alloc (w.alloc (.cells #[.map (some bc), .map (some bs)] 131)) #[.int .i64 2, .string (tx nm), .bool f, .int .u64 u, .slice ap ps.length cp, .slice ak ks.length ck, .slice ab bl.length cb, .slice aa al.length ca] 57
    rw [show (w.alloc (.cells #[.map (some bc), .map (some bs)] 131)).heap.size = w.heap.size + 1 by simp] at hB2
    have HF := Hd (nfault_any bc nc cs nm (hN.wn (Or.inr (Or.inl g2))).2 ((w.alloc (.cells #[.map (some bc), .map (some bs)] 131)).alloc (.cells #[.int .i64 2, .string (tx nm), .bool f, .int .u64 u, .slice ap ps.length cp, .slice ak ks.length ck, .slice ab bl.length cb, .slice aa al.length ca] 57)) (hc.later hx))
    have HX := Hd (Ai hx (Ai hB1 hB2))
    have HO := Hd (Ai hc (Ai hs (Ai hk tk)))
    have hmf := func_made
    clear hx hx1 hB1 hB2 hc hs hp hk hb ha tk tb ta
    go_enter Tryz.func96, Tryz.ntmps96
    go_wp2_with fail
    refine HF.out.mono ?_
    rintro e w2 ⟨rfl, hb2⟩
    have HB := Hd (Ai (onB' HX.out.1 hb2) (Ai (HX.out.2.1.below hb2) (HX.out.2.2.below hb2)))
    clear hb2 HF HX
    cases hfo : hasF cs nm with
    | some fo =>
      obtain ⟨er, nn⟩ := fo
      have HT := Hd hfo
      unfold vErr
      clear hfo
      go_wp2_with fail
      go_ret
      exact ⟨by rw [HT.out]; rfl, HB.out.1⟩
    | none =>
      have HT := Hd hfo
      unfold vErr
      clear hfo
      have r0 : w2.cell? ⟨w.heap.size, 0, none⟩ = some (.map (some bc)) := HB.out.2.1.1 0 _ rfl
      have r1 : w2.cell? ⟨w.heap.size, 1, none⟩ = some (.map (some bs)) := HB.out.2.1.1 1 _ rfl
      have q5 : w2.cell? ⟨w.heap.size + 1, 5, none⟩ = some (.slice ak ks.length ck) := HB.out.2.2.1 5 _ rfl
      have HF2 := Hd (first_exprs n hP bc nc cs bs ns sc ks hN.sk hN.wk (by omega) ak ck K xk w2 (HO.out.1.later HB.out.1) (HO.out.2.1.later HB.out.1) (HO.out.2.2.1.move fun g hg lt => ⟨hg, HB.out.1.block g lt⟩) (HO.out.2.2.2.move fun g hg lt => ⟨hg, HB.out.1.block g lt⟩))
      go_wp2_with fail
      refine HF2.out.mono ?_
      rintro e w3 ⟨rfl, hb3⟩
      have HB3 := Hd (onB' HB.out.1 hb3)
      clear hb3 HF2
      go_wp2_with fail
      go_ret
      exact ⟨by rw [HT.out]; rfl, HB3.out⟩
  by_cases g6 : k = 6
  · have hsc : scE cs sc (.mk k nm f u ps ks bl al) = (twF (bNames bl)).or ((scBs cs (sc ++ bNames bl) bl).or (scEs cs (sc ++ bNames bl) ks)) := by unfold scE; rw [if_neg g1, if_neg g2, if_pos g6]
    rw [hsc, g6]
    rw [g6] at hN
    have hx1 := (Below.refl w.heap.size w).alloc Nr (.cells #[.map (some bc), .map (some bs)] 131)
    have hx := hx1.alloc hx1.size (.cells #[.int .i64 6, .string (tx nm), .bool f, .int .u64 u, .slice ap ps.length cp, .slice ak ks.length ck, .slice ab bl.length cb, .slice aa al.length ca] 57)
    have hB1 := (BoxW.alloc w #[.map (some bc), .map (some bs)] 131).below (Br.alloc Nr (.cells #[.int .i64 6, .string (tx nm), .bool f, .int .u64 u, .slice ap ps.length cp, .slice ak ks.length ck, .slice ab bl.length cb, .slice aa al.length ca] 57))
    have hB2 := BoxW.alloc (w.alloc (.cells #[.map (some bc), .map (some bs)] 131)) #[.int .i64 6, .string (tx nm), .bool f, .int .u64 u, .slice ap ps.length cp, .slice ak ks.length ck, .slice ab bl.length cb, .slice aa al.length ca] 57
    rw [show (w.alloc (.cells #[.map (some bc), .map (some bs)] 131)).heap.size = w.heap.size + 1 by simp] at hB2
    have HF := Hd (plet_any n hP bc nc cs bs ns sc 6 nm f u ps ks bl al ap cp ak ck ab cb aa ca hN K xk xb ((w.alloc (.cells #[.map (some bc), .map (some bs)] 131)).alloc (.cells #[.int .i64 6, .string (tx nm), .bool f, .int .u64 u, .slice ap ps.length cp, .slice ak ks.length ck, .slice ab bl.length cb, .slice aa al.length ca] 57)) (hc.later hx) (hs.later hx) (hk.move fun g hg lt => ⟨hg, hx.block g lt⟩) (hb.move fun g hg lt => ⟨hg, hx.block g lt⟩) (tk.move fun g hg lt => ⟨hg, hx.block g lt⟩) (tb.move fun g hg lt => ⟨hg, hx.block g lt⟩))
    have HX := Hd hx
    have hmf := func_made
    clear hx hx1 hB1 hB2 hc hs hp hk hb ha tk tb ta
    go_enter Tryz.func96, Tryz.ntmps96
    go_wp2_with fail
    refine HF.out.mono ?_
    rintro e w3 ⟨rfl, hb3⟩
    have HB3 := Hd (onB' HX.out hb3)
    clear hb3 HF
    go_wp2_with fail
    go_ret
    exact ⟨rfl, HB3.out⟩
  by_cases g7 : k = 7
  · have hsc : scE cs sc (.mk k nm f u ps ks bl al) = (scEs cs sc ks).or (scAs cs sc al) := by unfold scE; rw [if_neg g1, if_neg g2, if_neg g6, if_pos g7]
    rw [hsc, g7]
    rw [g7] at hN
    have hx1 := (Below.refl w.heap.size w).alloc Nr (.cells #[.map (some bc), .map (some bs)] 131)
    have hx := hx1.alloc hx1.size (.cells #[.int .i64 7, .string (tx nm), .bool f, .int .u64 u, .slice ap ps.length cp, .slice ak ks.length ck, .slice ab bl.length cb, .slice aa al.length ca] 57)
    have hB1 := (BoxW.alloc w #[.map (some bc), .map (some bs)] 131).below (Br.alloc Nr (.cells #[.int .i64 7, .string (tx nm), .bool f, .int .u64 u, .slice ap ps.length cp, .slice ak ks.length ck, .slice ab bl.length cb, .slice aa al.length ca] 57))
    have hB2 := BoxW.alloc (w.alloc (.cells #[.map (some bc), .map (some bs)] 131)) #[.int .i64 7, .string (tx nm), .bool f, .int .u64 u, .slice ap ps.length cp, .slice ak ks.length ck, .slice ab bl.length cb, .slice aa al.length ca] 57
    rw [show (w.alloc (.cells #[.map (some bc), .map (some bs)] 131)).heap.size = w.heap.size + 1 by simp] at hB2
    have HF := Hd (pchoice_any n hP bc nc cs bs ns sc 7 nm f u ps ks bl al ap cp ak ck ab cb aa ca hN K xk xa ((w.alloc (.cells #[.map (some bc), .map (some bs)] 131)).alloc (.cells #[.int .i64 7, .string (tx nm), .bool f, .int .u64 u, .slice ap ps.length cp, .slice ak ks.length ck, .slice ab bl.length cb, .slice aa al.length ca] 57)) (hc.later hx) (hs.later hx) (hk.move fun g hg lt => ⟨hg, hx.block g lt⟩) (ha.move fun g hg lt => ⟨hg, hx.block g lt⟩) (tk.move fun g hg lt => ⟨hg, hx.block g lt⟩) (ta.move fun g hg lt => ⟨hg, hx.block g lt⟩))
    have HX := Hd hx
    have hmf := func_made
    clear hx hx1 hB1 hB2 hc hs hp hk hb ha tk tb ta
    go_enter Tryz.func96, Tryz.ntmps96
    go_wp2_with fail
    refine HF.out.mono ?_
    rintro e w3 ⟨rfl, hb3⟩
    have HB3 := Hd (onB' HX.out hb3)
    clear hb3 HF
    go_wp2_with fail
    go_ret
    exact ⟨rfl, HB3.out⟩
  by_cases g8 : k = 8
  · have hsc : scE cs sc (.mk k nm f u ps ks bl al) = (twF ps).or (scEs cs (sc ++ ps) ks) := by unfold scE; rw [if_neg g1, if_neg g2, if_neg g6, if_neg g7, if_pos g8]
    rw [hsc, g8]
    have hx1 := (Below.refl w.heap.size w).alloc Nr (.cells #[.map (some bc), .map (some bs)] 131)
    have hx := hx1.alloc hx1.size (.cells #[.int .i64 8, .string (tx nm), .bool f, .int .u64 u, .slice ap ps.length cp, .slice ak ks.length ck, .slice ab bl.length cb, .slice aa al.length ca] 57)
    have hB1 := (BoxW.alloc w #[.map (some bc), .map (some bs)] 131).below (Br.alloc Nr (.cells #[.int .i64 8, .string (tx nm), .bool f, .int .u64 u, .slice ap ps.length cp, .slice ak ks.length ck, .slice ab bl.length cb, .slice aa al.length ca] 57))
    have hB2 := BoxW.alloc (w.alloc (.cells #[.map (some bc), .map (some bs)] 131)) #[.int .i64 8, .string (tx nm), .bool f, .int .u64 u, .slice ap ps.length cp, .slice ak ks.length ck, .slice ab bl.length cb, .slice aa al.length ca] 57
    rw [show (w.alloc (.cells #[.map (some bc), .map (some bs)] 131)).heap.size = w.heap.size + 1 by simp] at hB2
    have HF := Hd (bodies_any n hP bc nc cs bs ns sc ps ks hN.wp (fun x hx => ⟨hN.sk x hx, hN.wk x hx⟩) (by omega) ap cp ak ck K K K xk ((w.alloc (.cells #[.map (some bc), .map (some bs)] 131)).alloc (.cells #[.int .i64 8, .string (tx nm), .bool f, .int .u64 u, .slice ap ps.length cp, .slice ak ks.length ck, .slice ab bl.length cb, .slice aa al.length ca] 57)) (hc.later hx) (hs.later hx) (hp.move fun g hg lt => ⟨hg, hx.block g lt⟩) (hk.move fun g hg lt => ⟨hg, hx.block g lt⟩) (tk.move fun g hg lt => ⟨hg, hx.block g lt⟩))
    have HX := Hd hx
    have hmf := func_made
    clear hx hx1 hB1 hB2 hc hs hp hk hb ha tk tb ta
    go_enter Tryz.func96, Tryz.ntmps96
    go_wp2_with fail
    refine HF.out.mono ?_
    rintro e w3 ⟨rfl, hb3⟩
    have HB3 := Hd (onB' HX.out hb3)
    clear hb3 HF
    go_wp2_with fail
    go_ret
    exact ⟨rfl, HB3.out⟩
  · have hsc : scE cs sc (.mk k nm f u ps ks bl al) = scEs cs sc ks := by unfold scE; rw [if_neg g1, if_neg g2, if_neg g6, if_neg g7, if_neg g8]
    rw [hsc]
    have f1 : (k == 1) = false := by simpa using g1
    have f2 : (k == 2) = false := by simpa using g2
    have f6 : (k == 6) = false := by simpa using g6
    have f7 : (k == 7) = false := by simpa using g7
    have f8 : (k == 8) = false := by simpa using g8
    have hx1 := (Below.refl w.heap.size w).alloc Nr (.cells #[.map (some bc), .map (some bs)] 131)
    have hx := hx1.alloc hx1.size (.cells #[.int .i64 k, .string (tx nm), .bool f, .int .u64 u, .slice ap ps.length cp, .slice ak ks.length ck, .slice ab bl.length cb, .slice aa al.length ca] 57)
    have hB1 := (BoxW.alloc w #[.map (some bc), .map (some bs)] 131).below (Br.alloc Nr (.cells #[.int .i64 k, .string (tx nm), .bool f, .int .u64 u, .slice ap ps.length cp, .slice ak ks.length ck, .slice ab bl.length cb, .slice aa al.length ca] 57))
    have hB2 := BoxW.alloc (w.alloc (.cells #[.map (some bc), .map (some bs)] 131)) #[.int .i64 k, .string (tx nm), .bool f, .int .u64 u, .slice ap ps.length cp, .slice ak ks.length ck, .slice ab bl.length cb, .slice aa al.length ca] 57
    rw [show (w.alloc (.cells #[.map (some bc), .map (some bs)] 131)).heap.size = w.heap.size + 1 by simp] at hB2
    have HF := Hd (first_exprs n hP bc nc cs bs ns sc ks hN.sk hN.wk (by omega) ak ck K xk ((w.alloc (.cells #[.map (some bc), .map (some bs)] 131)).alloc (.cells #[.int .i64 k, .string (tx nm), .bool f, .int .u64 u, .slice ap ps.length cp, .slice ak ks.length ck, .slice ab bl.length cb, .slice aa al.length ca] 57)) (hc.later hx) (hs.later hx) (hk.move fun g hg lt => ⟨hg, hx.block g lt⟩) (tk.move fun g hg lt => ⟨hg, hx.block g lt⟩))
    have HX := Hd hx
    have hmf := func_made
    clear hx hx1 hB1 hB2 hc hs hp hk hb ha tk tb ta
    go_enter Tryz.func96, Tryz.ntmps96
    go_wp2_with fail
    refine HF.out.mono ?_
    rintro e w3 ⟨rfl, hb3⟩
    have HB3 := Hd (onB' HX.out hb3)
    clear hb3 HF
    go_wp2_with fail
    go_ret
    exact ⟨rfl, HB3.out⟩
theorem plc_all : ∀ n, PlcC n
  | 0 => by
    intro x K w bc nc cs bs ns sc k nm f u ap np cp ak nk ck ab nb cb aa na ca hz
    obtain ⟨k, n, f, x, ps, ks, bs, al⟩ := x
    simp only [Ex.mk.sizeOf_spec] at hz
    omega
  | n + 1 => plc_step n (plc_all n)
structure ModAt (W : World) (K : Nat → Prop) (m : Md) (ac : Option Addr) (cc : Nat) (ab : Option Addr) (cb : Nat) : Prop where
  dr : RowAt W K 92 2 (.slice ac m.1.length cc) m.1.length (declV m.1)
  br : ∃ xb, RowAt W K 59 10 (.slice ab m.2.length cb) m.2.length xb ∧ BndsAt W K m.2 xb
theorem ModAt.below {W W' : World} {K : Nat → Prop} {m : Md} {ac : Option Addr} {cc : Nat} {ab : Option Addr} {cb : Nat} (h : ModAt W K m ac cc ab cb) (hb : Below W.heap.size W W') : ModAt W' K m ac cc ab cb := by
  obtain ⟨xb, h1, h2⟩ := h.br
  exact ⟨h.dr.move fun g hk lt => ⟨hk, hb.block g lt⟩, xb, h1.move fun g hk lt => ⟨hk, hb.block g lt⟩, h2.move fun g hk lt => ⟨hk, hb.block g lt⟩⟩
structure MdOk (m : Md) : Prop where
  wd : ∀ d, d ∈ m.1 → NmOk d.1
  wb : ∀ b, b ∈ m.2 → wB b
  wt : 10 + m.1.length + (m.2.length + sumN nB m.2) ≤ 100000
theorem modfault_any (m : Md) (hm : MdOk m) (ac : Option Addr) (cc : Nat) (ab : Option Addr) (cb : Nat) (K : Nat → Prop) (w : World) (h : ModAt w K m ac cc ab cb) :
    Calls Tryz.prog 27 #[.agg #[.slice ac m.1.length cc, .slice ab m.2.length cb]] w fun e w' => e = .returned (vErr (scM m)) ∧ Below w.heap.size w w' := by
  have hx := (Below.refl w.heap.size w).alloc Nr (.cells #[.slice ac m.1.length cc, .slice ab m.2.length cb] 27)
  have HX := Hd (Ai hx (BoxW.alloc w #[.slice ac m.1.length cc, .slice ab m.2.length cb] 27))
  have HO := Hd h
  clear h hx
  have hmm := @run_makeMap Tryz.prog
  have hmf := func_made
  have hwt := hm.wt
  have hlb := bNames_len m.2
  have hlc : (conNames m).length = 4 + m.1.length := by simp [conNames, four]; omega
  have hcl : ∀ x, x ∈ conNames m → x.length ≤ 100000 := fun x hx => by
    obtain ⟨d, hd, rfl⟩ := List.mem_map.1 hx
    rcases List.mem_append.1 hd with hd | hd
    · simp only [four, List.mem_cons, List.not_mem_nil, or_false] at hd
      rcases hd with rfl | rfl | rfl | rfl <;> decide
    · exact (hm.wd d hd).2
  have hbl : ∀ x, x ∈ bNames m.2 → x.length ≤ 100000 := fun x hx => by
    obtain ⟨b, hb, rfl⟩ := List.mem_map.1 hx
    exact (hm.wb b hb).1.2
  have HCL := Hd (Ai hcl hbl)
  have HLB := Hd (Ai hlb hlc)
  clear hcl hbl hlb hlc
  go_enter Tryz.func27, Tryz.ntmps27
  go_upto_region 1 with fail
  generalize (w.alloc (.cells #[.slice ac m.1.length cc, .slice ab m.2.length cb] 27)) = W at *
  have d0 : W.cell? ⟨w.heap.size, 0, none⟩ = some (.slice ac m.1.length cc) := HX.out.2.1 0 _ rfl
  have d1 : W.cell? ⟨w.heap.size, 1, none⟩ = some (.slice ab m.2.length cb) := HX.out.2.1 1 _ rfl
  have hq0 : w.heap.size < W.heap.size := Bl d0
  have hbm : Below W.heap.size W (W.alloc (.map #[] 0)) := Br.alloc Nr _
  have HM1 := Hd (Ai hbm (nset_made W))
  have HC := Hd (pcons_any m.1 (fun d hd => (hm.wd d hd).2) ac cc (.slice ab m.2.length cb) K (W.alloc (.map #[] 0)) (by omega) (HO.out.dr.move fun g hk lt => ⟨hk, (onB' HX.out.1 hbm).block g lt⟩) ⟨_, _, _, rfl⟩)
  clear hbm
  go_wp2_with fail
  refine HC.out.mono ?_
  rintro e w1 ⟨⟨v, rfl, ho⟩, hb1⟩
  obtain ⟨ds, hds⟩ : ∃ ds : List (Nm × Int), ds = four ++ m.1 := ⟨_, rfl⟩
  have hdl : 4 + m.1.length = ds.length := by rw [hds]; simp [four]; omega
  rw [hdl, ← hds] at ho
  have HDS := Hd (Ai hds hdl)
  clear hds hdl
  obtain ⟨a1, c1, rfl, -⟩ := own_shape ho
  have HB1 := Hd (onB' HM1.out.1 hb1)
  have HN1 := Hd (cnames_of_any ds a1 c1 (fun _ => True) w1 (by have := HDS.out.2; omega) (RowAt.of ho (fun _ _ => trivial)))
  have HS1 := Hd (HM1.out.2.later hb1)
  clear hb1 ho HC HM1
  go_wp2_with fail
  refine HN1.out.mono ?_
  rintro e w2 ⟨⟨v, rfl, ho⟩, hb2⟩
  rw [show ds.length = (conNames m).length by rw [HDS.out.1]; exact (List.length_map ..).symm, show ds.map (·.1) = conNames m by rw [HDS.out.1]; rfl] at ho
  obtain ⟨a2, c2, rfl, -⟩ := own_shape ho
  have HB2 := Hd (onB' HB1.out hb2)
  have HW1 := Hd (with_any W.heap.size 0 [] (conNames m) HCL.out.1 (by have := HLB.out.2; omega) a2 c2 (fun _ => True) w2 (HS1.out.later hb2) (RowAt.of ho (fun _ _ => trivial)))
  clear hb2 ho HN1 HB1 HS1
  go_wp2_with fail
  refine HW1.out.mono ?_
  rintro e w3 ⟨hw, hb3⟩
  have HB3 := Hd (onB' HB2.out hb3)
  have HS := Hd hw
  clear hb3 hw HW1 HB2
  cases htw : twF (conNames m) with
  | some fo =>
    have h := HS.out
    unfold WithSaid at h
    rw [htw] at h
    subst h
    have HT := Hd htw
    obtain ⟨er, nn⟩ := fo
    unfold vErr
    clear htw HS
    go_wp2_with fail
    go_ret
    exact ⟨by unfold scM; rw [HT.out]; rfl, onB' HX.out.1 HB3.out⟩
  | none =>
    have h := HS.out
    unfold WithSaid at h
    rw [htw] at h
    obtain ⟨bc, rfl, hs⟩ := h
    rw [List.nil_append, Nat.zero_add] at hs
    have HT := Hd htw
    have HSc := Hd hs
    have e1 := later' HB3.out d1
    have hq1 : w.heap.size < w3.heap.size := Bl e1
    have hbm : Below w3.heap.size w3 (w3.alloc (.map #[] 0)) := Br.alloc Nr _
    have HM3 := Hd (Ai hbm (Ai (nset_made w3) (onB' HX.out.1 (onB' HB3.out hbm))))
    obtain ⟨xb, hbr, hbt⟩ := HO.out.br
    have HBx := Hd (Ai hbr hbt)
    have HN3 := Hd (names_of_any m.2 ab cb K K xb (w3.alloc (.map #[] 0)) (by omega) (hbr.move fun g hk lt => ⟨hk, HM3.out.2.2.block g lt⟩) (hbt.move fun g hk lt => ⟨hk, HM3.out.2.2.block g lt⟩))
    clear htw HS hs hbm hbr hbt
    go_wp2_with fail
    refine HN3.out.mono ?_
    rintro e w4 ⟨⟨v, rfl, ho⟩, hb4⟩
    rw [← HLB.out.1] at ho
    obtain ⟨a4, c4, rfl, -⟩ := own_shape ho
    have HB4 := Hd (onB' HM3.out.1 hb4)
    have HW4 := Hd (with_any w3.heap.size 0 [] (bNames m.2) HCL.out.2 (by have := HLB.out.1; omega) a4 c4 (fun _ => True) w4 (HM3.out.2.1.later hb4) (RowAt.of ho (fun _ _ => trivial)))
    clear hb4 ho HN3 HM3
    go_wp2_with fail
    refine HW4.out.mono ?_
    rintro e w5 ⟨hw, hb5⟩
    have HB5 := Hd (onB' HB4.out hb5)
    have HS := Hd hw
    clear hb5 hw HW4 HB4
    cases htw : twF (bNames m.2) with
    | some fo =>
      have h := HS.out
      unfold WithSaid at h
      rw [htw] at h
      subst h
      have HT2 := Hd htw
      obtain ⟨er, nn⟩ := fo
      unfold vErr
      clear htw HS
      go_wp2_with fail
      go_ret
      exact ⟨by unfold scM; rw [HT.out, HT2.out]; rfl, onB' HX.out.1 (onB' HB3.out HB5.out)⟩
    | none =>
      have h := HS.out
      unfold WithSaid at h
      rw [htw] at h
      obtain ⟨bs, rfl, hs⟩ := h
      rw [List.nil_append, Nat.zero_add] at hs
      have HT2 := Hd htw
      have HSs := Hd hs
      have e2 := later' HB5.out e1
      have hlk : (Instr.lookup 121 (.map (some bs)) (.string ⟨#[109, 97, 105, 110]⟩) false).run Tryz.prog w5 = .ok (.bool (decide (mainL ∈ bNames m.2))) w5 := hs.look mainL (by decide)
      have HB := Hd (onB' HX.out.1 (onB' HB3.out HB5.out))
      clear htw HS hs e1
      by_cases gm : mainL ∈ bNames m.2
      · rw [decide_eq_true gm] at hlk
        have HF := Hd (first_binds _ (plc_all _) bc (conNames m).length (conNames m) bs (bNames m.2).length (bNames m.2) m.2 (fun y hy => sumN_mem (fun b : Bnd => SizeOf.sizeOf b.2.2) hy) hm.wb (by have := HLB.out.1; omega) ab cb K K xb w5 (HSc.out.later HB5.out) HSs.out (HBx.out.1.move fun g hk lt => ⟨hk, HB.out.block g lt⟩) (HBx.out.2.move fun g hk lt => ⟨hk, HB.out.block g lt⟩))
        go_wp2_with fail
        refine HF.out.mono ?_
        rintro e w6 ⟨rfl, hb6⟩
        have HB6 := Hd (onB' HB.out hb6)
        clear hb6 HF
        go_wp2_with fail
        go_ret
        exact ⟨by unfold scM; rw [HT.out, HT2.out, if_pos gm]; rfl, HB6.out⟩
      · rw [decide_eq_false gm] at hlk
        go_wp2_with fail
        go_ret
        exact ⟨by unfold scM; rw [HT.out, HT2.out, if_neg gm]; rfl, HB.out⟩
theorem dcheck_any (m : Md) (hm : MdOk m) (ac : Option Addr) (cc : Nat) (ab : Option Addr) (cb : Nat) (K : Nat → Prop) (w : World) (h : ModAt w K m ac cc ab cb) :
    Calls Tryz.prog 16 #[.agg #[.slice ac m.1.length cc, .slice ab m.2.length cb]] w fun e w' => e = .returned (.tuple #[.int .i64 (stN (sdM m)).1, .string (tx (stN (sdM m)).2)]) ∧ Below w.heap.size w w' := by
  have hx := (Below.refl w.heap.size w).alloc Nr (.cells #[.slice ac m.1.length cc, .slice ab m.2.length cb] 27)
  have HX := Hd (Ai hx (BoxW.alloc w #[.slice ac m.1.length cc, .slice ab m.2.length cb] 27))
  have HO := Hd h
  have hwt := hm.wt
  have HLB := Hd (bNames_len m.2)
  obtain ⟨i0, hi0, hz0, hzs, hzb⟩ := info_parts Tryz.info_text
  clear h hx
  go_enter Tryz.func16, Tryz.ntmps16
  go_upto_region 1 with fail
  generalize (w.alloc (.cells #[.slice ac m.1.length cc, .slice ab m.2.length cb] 27)) = W at *
  have d0 : W.cell? ⟨w.heap.size, 0, none⟩ = some (.slice ac m.1.length cc) := HX.out.2.1 0 _ rfl
  have d1 : W.cell? ⟨w.heap.size, 1, none⟩ = some (.slice ab m.2.length cb) := HX.out.2.1 1 _ rfl
  have hq0 : w.heap.size < W.heap.size := Bl d0
  have hbm : Below W.heap.size W (W.alloc (.cells #[.int .i64 0, .string ⟨#[]⟩, .slice none 0 0] 90)) := Br.alloc Nr _
  have HM1 := Hd (Ai (onB' HX.out.1 hbm) (Ai (BoxW.alloc W #[.int .i64 0, .string ⟨#[]⟩, .slice none 0 0] 90) (HX.out.2.below hbm)))
  have HC := Hd (scons_any m.1 (.slice ac m.1.length cc) (.slice ab m.2.length cb) K (W.alloc (.cells #[.int .i64 0, .string ⟨#[]⟩, .slice none 0 0] 90)) (by omega) (HO.out.dr.move fun g hk lt => ⟨hk, (onB' HX.out.1 hbm).block g lt⟩))
  clear hbm
  go_wp2_with fail
  refine HC.out.mono ?_
  rintro e w2 ⟨⟨v, rfl, ho⟩, hb2⟩
  obtain ⟨ds, hds⟩ : ∃ ds : List (Nm × Int), ds = four ++ m.1 := ⟨_, rfl⟩
  have hdl : 4 + m.1.length = ds.length := by rw [hds]; simp [four]; omega
  rw [hdl, ← hds] at ho
  have HDS := Hd (Ai hds hdl)
  obtain ⟨a1, c1, rfl, -⟩ := own_shape ho
  have hzW : (W.alloc (.cells #[.int .i64 0, .string ⟨#[]⟩, .slice none 0 0] 90)).heap.size = W.heap.size + 1 := by simp
  have hne1 : ∀ g, (W.alloc (.cells #[.int .i64 0, .string ⟨#[]⟩, .slice none 0 0] 90)).heap.size ≤ g → g ≠ W.heap.size := fun g hg => by rw [hzW] at hg; omega
  have HB := Hd (show BoxW w2 W.heap.size [.int .i64 0, .string ⟨#[]⟩, .slice none 0 0] from HM1.out.2.1.below hb2)
  have hblt : W.heap.size < w2.heap.size := HB.out.lt
  have HB2 := Hd (Ai (onB' HM1.out.1 hb2) (HM1.out.2.2.below hb2))
  have hdm : ds.length ≤ 100000 := by omega
  have HR1 := Hd (show RowAt w2 (Apart W.heap.size) 92 2 (.slice a1 ds.length c1) ds.length (declV ds) from RowAt.of ho hne1)
  clear ho hds hdl hb2 HC HM1 hzW hne1
  go_wp2_with fail
  clear d0 d1
  go_loopw [6] (fun s wr => ∃ (j : Nat) (vv : Value), j ≤ ds.length ∧ s = .int .i64 j ∧ BoxW wr W.heap.size [.int .i64 0, .string ⟨#[]⟩, vv] ∧ wr.ownsRow w2.heap.size 9 1 vv j (namesV ((ds.take j).map (·.1))) ∧ w2.grownBy wr (some W.heap.size)) (fun s _ => ds.length - (RowKit.intOf s).toNat)
  case atStart => exact ⟨0, _, Nat.zero_le _, rfl, HB.out, World.ownsRow_nil _ _ _ _, grown_of Br⟩
  case round =>
    obtain ⟨j, vv, hj, rfl, hbx, hown, hg⟩ := hrel
    obtain ⟨av, cv, rfl, hlow⟩ := own_shape hown
    have HW := Hd (Ai hbx (Ai hown (Ai hg hlow)))
    clear hbx hown hg hlow
    have z2 := HW.out.1.2 2
    have x2 : wr.cell? ⟨W.heap.size, 2, none⟩ = some (.slice av j cv) := HW.out.1.1 2 _ rfl
    by_cases gj : j < ds.length
    · have gj' : (j : Int) < (ds.length : Int) := by omega
      obtain ⟨g1, o1, ea1, k1, m1', hgb, ht1⟩ := (HR1.out.apart HW.out.2.2.1).at (by omega)
      subst ea1
      obtain ⟨zz0, -⟩ := declV_here gj
      have p0 : wr.cell? ⟨g1, o1 + j * 2, none⟩ = some (.string (tx ds[j].1)) := ht1 _ _ zz0
      have HT := Hd (show namesV ((ds.take (j + 1)).map (·.1)) = namesV ((ds.take j).map (·.1)) ++ [.string (tx ds[j].1)] by rw [List.take_succ_eq_append_getElem gj]; simp only [namesV, List.map_append, List.map_cons, List.map_nil])
      clear ht1 zz0
      generalize ds[j].1 = nm at *
      have hsw : w2.heap.size ≤ wr.heap.size := HW.out.2.2.1.size
      have ej : IntKind.i64.wrap ((j : Int) + 1) = (j : Int) + 1 := by rw [IntKind.wrap_i64]; omega
      have b0 : (0 : Int) ≤ (j : Int) := by omega
      have one1 : ∀ u ∈ [Value.string (tx nm)], u.oneCell' = true := by intro u hu; simp at hu; rw [hu]; rfl
      have m9 : j + 1 ≤ maxLen := by unfold maxLen; omega
      have m8 : (j + 1) * 16 ≤ 140737488355328 := by omega
      have hne : some W.heap.size ≠ (Value.slice av j cv).ownBlock := fun e => by have := HW.out.2.2.2 _ e.symm; omega
      have hb7 : Below wr.heap.size wr ((wr.alloc (.cells #[.string (tx nm)] 9)).drew) := ((Below.refl wr.heap.size wr).alloc Nr _).drew
      have HB7 := Hd hb7
      have HO7 := Hd (own_below HW.out.2.1 hb7)
      have x7 := later' hb7 x2
      have z7 : ((wr.alloc (.cells #[.string (tx nm)] 9)).drew).frozen? ⟨W.heap.size, 2, none⟩ = false := (HW.out.1.below hb7).2 2
      have HBx7 := Hd (HW.out.1.below hb7)
      have hz7 : wr.heap.size < ((wr.alloc (.cells #[.string (tx nm)] 9)).drew).heap.size := by show wr.heap.size < (wr.alloc (.cells #[.string (tx nm)] 9)).heap.size; simp
      have hlt : W.heap.size < wr.heap.size := by omega
      clear hb7
      go_wp2_with fail
      go_region_law (refine step_append_lies _ rfl _ _ 50 rfl w2.heap.size 9 i0 (.string ⟨#[]⟩) 1 16 Tryz.underlying50 hi0 hz0 hzs hzb rfl (by decide) (.slice av j cv) j (namesV ((ds.take j).map (·.1))) rfl HO7.out ⟨wr.heap.size, 0, none⟩ 1 1 [.string (tx nm)] rfl rfl (World.news_of_block (heap_alloc_new _ _)) one1 (by decide) m9 m8 (by omega) _ rfl ?_; intro g9 cap9 w9 q1 q2 q3 q4; have x9 := q2.cell x7 (by simpa using hne); have z9 := (q2.frozen_far ⟨W.heap.size, 2, none⟩ (Bl x7) (by simpa using hne)).trans z7)
      all_goals go_wp2_with fail
      all_goals
        refine ⟨⟨j + 1, _, by omega, by go_num, BoxW.set (cs := [.int .i64 0, .string ⟨#[]⟩, .slice av j cv]) ⟨fun i v hi => q2.cell (HBx7.out.1 i v hi) (by simpa using hne), fun i => (q2.frozen_far ⟨W.heap.size, i, none⟩ (by show W.heap.size < _; omega) (by simpa using hne)).trans (HBx7.out.2 i)⟩ 2 (show 2 < 3 by decide) _, ?_, ?_⟩, by simp [RowKit.intOf]; omega⟩
        · rw [HT.out]
          refine own_o q1 (set_grown ..) (fun g hg e => ?_)
          have e1 : g = W.heap.size := Oi e
          have e2 : g9 = g := Oi hg
          rcases q3 with q3 | q3
          · have := HW.out.2.2.2 _ q3; omega
          · omega
        · have hg1 := HW.out.2.2.1
          have hb7 := HB7.out
          refine ⟨q2.os.trans (hb7.os.trans hg1.os), q2.tape.trans (hb7.tape.trans hg1.tape), q2.output.trans (hb7.output.trans hg1.output), Nt hg1.size (Nt hb7.size (Nt q2.size (set_grown ..).size)), fun k hk hne2 => ?_⟩
          exact ((set_grown ..).block k (by have := q2.size; omega) hne2).trans ((q2.block k (by omega) (fun e => by have := HW.out.2.2.2 _ e.symm; omega)).trans ((hb7.block k (by omega)).trans (hg1.block k hk hne2)))
    · obtain rfl : j = ds.length := by omega
      have hown := HW.out.2.1
      rw [List.take_length, show ds.map (·.1) = conNames m by rw [HDS.out.1]; rfl, show ds.length = (conNames m).length by rw [HDS.out.1]; exact (List.length_map ..).symm] at hown
      have hbx := HW.out.1
      rw [show ds.length = (conNames m).length by rw [HDS.out.1]; exact (List.length_map ..).symm] at hbx x2
      have hgw : w.heap.size < W.heap.size := hq0
      have HG := Hd (Ai HW.out.2.2.1 (below_of_new HB2.out.1 HW.out.2.2.1 (by omega)))
      have HS := Hd (show SAt wr W.heap.size none (.slice av (conNames m).length cv) from ⟨hbx, fun x hx => by cases hx⟩)
      have HRc := Hd (show RowAt wr (Apart W.heap.size) 9 1 (.slice av (conNames m).length cv) (conNames m).length (namesV (conNames m)) from RowAt.of hown (fun g hg => by show g ≠ W.heap.size; omega))
      have HMb := Hd (HB2.out.2.grown HW.out.2.2.1 (by omega))
      clear hown hbx HW HB HR1 z2 HDS gj
      have HTw := Hd (stwice_any W.heap.size none (.slice av (conNames m).length cv) (conNames m) av cv (Apart W.heap.size) (fun _ h => h) wr HS.out HRc.out)
      go_wp2_with fail
      refine HTw.out.mono ?_
      rintro e w3 ⟨rfl, hs3, hg3⟩
      have H3 := Hd (Ai hs3 (Ai (HMb.out.grown hg3 (by omega)) (Ai (HRc.out.apart hg3) (below_of_new HG.out.2 hg3 (by omega)))))
      have y1 : w3.cell? ⟨w.heap.size, 1, none⟩ = some (.slice ab m.2.length cb) := H3.out.2.1.1 1 _ rfl
      clear hs3 hg3 HTw HS HRc HMb HG x2
      obtain ⟨xb, hbr, hbt⟩ := HO.out.br
      have HBr := Hd (Ai (show RowAt w (fun g => g < w.heap.size) 59 10 (.slice ab m.2.length cb) m.2.length xb from hbr.low Br) (show BndsAt w (fun g => g < w.heap.size) m.2 xb from hbt.move fun g _ lt => ⟨lt, rfl⟩))
      clear hbr hbt
      have HNm := Hd (snames_any m.2 ab cb (fun g => g < w.heap.size) (fun g => g < w.heap.size) xb w3 (by omega) (HBr.out.1.move fun g hk lt => ⟨hk, H3.out.2.2.2.block g lt⟩) (HBr.out.2.move fun g hk lt => ⟨hk, H3.out.2.2.2.block g lt⟩))
      go_wp2_with fail
      refine HNm.out.mono ?_
      rintro e w4 ⟨⟨v, rfl, ho⟩, hb4⟩
      rw [← HLB.out] at ho
      obtain ⟨ag, cg, rfl, -⟩ := own_shape ho
      have H4 := Hd (Ai (H3.out.1.later hb4) (Ai (H3.out.2.1.below hb4) (Ai (H3.out.2.2.1.apartB hb4) (Ai (onB' H3.out.2.2.2 hb4) (show RowAt w4 (Apart W.heap.size) 9 1 (.slice ag (bNames m.2).length cg) (bNames m.2).length (namesV (bNames m.2)) from RowAt.of ho (fun g hg => by have := H3.out.1.lt; show g ≠ W.heap.size; omega))))))
      clear hb4 ho HNm H3 y1
      have HTw := Hd (stwice_any W.heap.size (none.or (twF (conNames m))) (.slice av (conNames m).length cv) (bNames m.2) ag cg (Apart W.heap.size) (fun _ h => h) w4 H4.out.1 H4.out.2.2.2.2)
      go_wp2_with fail
      refine HTw.out.mono ?_
      rintro e w5 ⟨rfl, hs5, hg5⟩
      have H5 := Hd (Ai hs5 (Ai (H4.out.2.1.grown hg5 (by omega)) (Ai (H4.out.2.2.1.apart hg5) (Ai (below_of_new H4.out.2.2.2.1 hg5 (by omega)) (H4.out.2.2.2.2.apart hg5)))))
      clear hs5 hg5 HTw H4
      have HIn := Hd (show Calls Tryz.prog 36 #[.slice ag (bNames m.2).length cg, .string ⟨#[109, 97, 105, 110]⟩] w5 fun e w' => e = .returned (.bool (decide (mainL ∈ bNames m.2))) ∧ Below w5.heap.size w5 w' from in_any (bNames m.2) mainL ag cg (Apart W.heap.size) w5 H5.out.2.2.2.2)
      go_wp2_with fail
      refine HIn.out.mono ?_
      rintro e w6 ⟨rfl, hb6⟩
      have H6 := Hd (Ai (H5.out.1.later hb6) (Ai (H5.out.2.1.below hb6) (Ai (H5.out.2.2.1.apartB hb6) (Ai (onB' H5.out.2.2.2.1 hb6) (H5.out.2.2.2.2.apartB hb6)))))
      clear hb6 HIn H5
      by_cases gm : mainL ∈ bNames m.2
      · rw [decide_eq_true gm]
        have HSD := Hd (show sdM m = (twF (conNames m)).or ((twF (bNames m.2)).or (sdBs (conNames m) (bNames m.2) m.2)) by unfold sdM; rw [if_pos gm, Option.none_or])
        have y1 : w6.cell? ⟨w.heap.size, 1, none⟩ = some (.slice ab m.2.length cb) := H6.out.2.1.1 1 _ rfl
        have HBd := Hd (sbinds_any _ (doc_all _) W.heap.size ((none.or (twF (conNames m))).or (twF (bNames m.2))) (conNames m) av cv (bNames m.2) ag cg m.2 (fun y hy => sumN_mem (fun b : Bnd => SizeOf.sizeOf b.2.2) hy) hm.wb (by have := HLB.out; omega) ab cb xb w6 H6.out.1 H6.out.2.2.1 H6.out.2.2.2.2 (HBr.out.1.move fun g hk lt => ⟨by show g ≠ W.heap.size; omega, H6.out.2.2.2.1.block g lt⟩) (HBr.out.2.move fun g hk lt => ⟨by show g ≠ W.heap.size; omega, H6.out.2.2.2.1.block g lt⟩))
        go_wp2_with fail
        refine HBd.out.mono ?_
        rintro e w8 ⟨rfl, hs8, hg8⟩
        have HE := Hd (below_of_new H6.out.2.2.2.1 hg8 (by omega))
        have u0 := hs8.box.1 0 _ rfl
        have u1 := hs8.box.1 1 _ rfl
        generalize hst : ((none.or (twF (conNames m))).or (twF (bNames m.2))).or (sdBs (conNames m) (bNames m.2) m.2) = ST at *
        have HST := Hd (show sdM m = ST by rw [HSD.out, ← hst]; simp only [Option.none_or, or_assoc_f])
        clear hs8 hg8 HBd y1 hst H6
        go_wp2_with fail
        go_quiet (fail)
        go_wp2_with fail
        go_ret2
        exact ⟨by rw [HST.out]; rfl, below_dN HE.out _⟩
      · rw [decide_eq_false gm]
        have HSD := Hd (show sdM m = (twF (conNames m)).or ((twF (bNames m.2)).or ((some (10, mainL)).or (sdBs (conNames m) (bNames m.2) m.2))) by unfold sdM; rw [if_neg gm])
        have HFl := Hd (show Calls Tryz.prog 37 #[.pointer (some ⟨W.heap.size, 0, none⟩), .int .i64 10, .string ⟨#[109, 97, 105, 110]⟩] w6 fun e w' => e = .returned (.tuple #[]) ∧ SAt w' W.heap.size (((none.or (twF (conNames m))).or (twF (bNames m.2))).or (some (10, mainL))) (.slice av (conNames m).length cv) ∧ w6.grownBy w' (some W.heap.size) from sfault_any W.heap.size ((none.or (twF (conNames m))).or (twF (bNames m.2))) (.slice av (conNames m).length cv) 10 (by decide) mainL w6 H6.out.1)
        go_wp2_with fail
        refine HFl.out.mono ?_
        rintro e w7 ⟨rfl, hs7, hg7⟩
        have H7 := Hd (Ai hs7 (Ai (H6.out.2.1.grown hg7 (by omega)) (Ai (H6.out.2.2.1.apart hg7) (Ai (below_of_new H6.out.2.2.2.1 hg7 (by omega)) (H6.out.2.2.2.2.apart hg7)))))
        clear hs7 hg7 HFl H6
        have y1 : w7.cell? ⟨w.heap.size, 1, none⟩ = some (.slice ab m.2.length cb) := H7.out.2.1.1 1 _ rfl
        have HBd := Hd (sbinds_any _ (doc_all _) W.heap.size (((none.or (twF (conNames m))).or (twF (bNames m.2))).or (some (10, mainL))) (conNames m) av cv (bNames m.2) ag cg m.2 (fun y hy => sumN_mem (fun b : Bnd => SizeOf.sizeOf b.2.2) hy) hm.wb (by have := HLB.out; omega) ab cb xb w7 H7.out.1 H7.out.2.2.1 H7.out.2.2.2.2 (HBr.out.1.move fun g hk lt => ⟨by show g ≠ W.heap.size; omega, H7.out.2.2.2.1.block g lt⟩) (HBr.out.2.move fun g hk lt => ⟨by show g ≠ W.heap.size; omega, H7.out.2.2.2.1.block g lt⟩))
        go_wp2_with fail
        refine HBd.out.mono ?_
        rintro e w8 ⟨rfl, hs8, hg8⟩
        have HE := Hd (below_of_new H7.out.2.2.2.1 hg8 (by omega))
        have u0 := hs8.box.1 0 _ rfl
        have u1 := hs8.box.1 1 _ rfl
        generalize hst : (((none.or (twF (conNames m))).or (twF (bNames m.2))).or (some (10, mainL))).or (sdBs (conNames m) (bNames m.2) m.2) = ST at *
        have HST := Hd (show sdM m = ST by rw [HSD.out, ← hst]; simp only [Option.none_or, or_assoc_f])
        clear hs8 hg8 HBd y1 hst H7
        go_wp2_with fail
        go_quiet (fail)
        go_wp2_with fail
        go_ret2
        exact ⟨by rw [HST.out]; rfl, below_dN HE.out _⟩
end Go.Proofs.YtdjcdecbmeickaaGreatDoor
