/- RingOnce: its walk. -/
import Derived.Test.YtbjlpmjalidfkaaRjK
namespace Go.Proofs.Ytbjlpmjalidfkaa
open Go.RowKit Go.Shelf

set_option maxHeartbeats 16000000 in
set_option maxRecDepth 100000 in
theorem once_in (n : Nat) (a0 : Option Addr) (len cap0 : Nat) (w : World) (hacts : Acts w a0 len) (n0 : 1 ≤ n) (n1 : n ≤ 2000) (hl : len ≤ 60) :
    Calls Try.prog 3 #[.int .i64 n, .slice a0 len cap0] w fun e w' => e = .returned (.bool true) ∧ Below w.heap.size w w' := by
  have HACT := Lib.hid hacts
  have g1 : decide ((n : Int) < 1) = false := decide_eq_false (by omega)
  have g2 : decide (2000 < (n : Int)) = false := decide_eq_false (by omega)
  have g3 : decide (60 < (len : Int)) = false := decide_eq_false (by omega)
  clear hacts
  go_enter Try.func3, Try.ntmps3
  go_wp2_with fail
  refine (awake_any _).mono ?_
  rintro e w1 ⟨rfl, hB⟩
  have s1 := hB.size
  have HB := Lib.hid hB
  clear hB
  go_wp2_with fail
  refine (made_in n w1 (by omega) (by omega)).mono ?_
  rintro e w2 ⟨s, q, rfl, hn, hR, hQ, l1, l2, l3, l4, l5, l6, hb⟩
  subst hn
  have HBO : Hid (Both w s q none4 w2) := ⟨hR, hQ, onB' HB.out hb, by omega, by omega, by omega, l1, l2, l3⟩
  clear hR hQ hb HB s1 l1 l2 l3 l4 l5 l6
  have hmk : ∀ W, (Instr.makeMap 29 none).run Try.prog W = .ok (.map (some W.heap.size)) (W.alloc (.map #[] 0)) := fun W => rfl
  go_wp2_with fail
  have hba : Below w2.heap.size w2 (w2.alloc (.map #[] 0)) := (Below.refl _ _).alloc (Nat.le_refl _) _
  have HM := Lib.hid (cmap_made w2)
  have hkb : q < w2.heap.size := HBO.out.ref.lq
  replace HBO := Lib.hid (HBO.out.later hba)
  generalize (w2.alloc (.map #[] 0)) = x0 at *
  generalize w2.heap.size = kb at *
  clear hba
  have hi0 : ind none4.all = fun _ => 0 := ind_nil
  go_loopw [10] (fun s10 wr => ∃ (i : Nat) (R : Rows) (dom : List Int), i ≤ len ∧ R.all.length ≤ i ∧ s10 = .int .i64 i ∧ Both w s q R wr ∧ CMap wr kb (2 * i) (ind R.all) dom) (fun s10 _ => len - (intOf s10).toNat)
  case atStart => exact ⟨0, none4, [], Nat.zero_le _, Nat.zero_le _, rfl, HBO.out, by rw [hi0]; exact HM.out⟩
  case round =>
    clear HBO HM hi0
    obtain ⟨i, R, dom, hi, hRl, rfl, hBO, hM⟩ := hrel
    obtain ⟨f1, f2, f3, f4⟩ := hBO.fit
    have HF := Lib.hid (And.intro f1 (And.intro f2 (And.intro f3 f4)))
    have HBO := Lib.hid hBO
    have HM := Lib.hid hM
    clear hBO hM f1 f2 f3 f4
    by_cases hlt : i < len
    · obtain ⟨b, off, rfl, hbl, K, A, hcell⟩ := HACT.out (by omega)
      obtain ⟨c0, c1⟩ := hcell i hlt
      replace c0 := (HBO.out.below.cell (p := ⟨b, off + i * 2, none⟩) hbl).trans c0
      replace c1 := (HBO.out.below.cell (p := ⟨b, off + i * 2 + 1, none⟩) hbl).trans c1
      clear hcell
      generalize K i = K at c0
      generalize A i = N at c1
      have hlt' : (i : Int) < (len : Int) := by omega
      go_wp2_with fail
      refine (law_right wr q s.n R HBO.out.ref (by omega) K N HF.out.2.2.2).mono ?_
      rintro e w3 ⟨rb, rfl, hr, hb⟩
      have HBO3 := Lib.hid (HBO.out.later hb)
      have HM3 := Lib.hid (HM.out.later hb)
      have HRT := Lib.hid hr
      replace c0 := later' hb c0
      replace c1 := later' hb c1
      clear hr hb HBO HM
      cases rb with
      | false =>
        go_wp2_with fail
        exact ⟨⟨i + 1, R, dom, by omega, by omega, by go_num, HBO3.out, HM3.out.mono.mono⟩, by simp [intOf]; omega⟩
      | true =>
        have hfit : K = 0 → Rng s.n N → Fit s.n (N :: R.all) := fun k0 hg => by
          have := HF.out.2.1
          obtain ⟨h1, h2⟩ := hg
          refine ⟨fun x hx => ?_, List.pairwise_cons.2 ⟨fun y hy => ?_, HF.out.1.far⟩⟩
          · rcases List.mem_cons.1 hx with rfl | hx
            · exact ⟨h1, h2⟩
            · exact HF.out.1.rng x hx
          · have := HRT.out rfl k0 (by omega) (by omega) y hy
            omega
        have HFI := Lib.hid hfit
        clear hfit
        go_wp2_with fail
        refine (did_any s q R w3 HBO3.out.ring HBO3.out.ref K N HF.out.2.2.1 (by omega) HFI.out).mono ?_
        rintro e w4 ⟨rfl, hR, ht⟩
        have hcb : b ≠ s.r ∧ b ≠ s.p ∧ b ≠ s.d := ⟨by have := HBO3.out.r0; omega, by have := HBO3.out.p0; omega, by have := HBO3.out.d0; omega⟩
        replace c0 := ht.cell c0 hcb.1 hcb.2.1 hcb.2.2
        replace c1 := ht.cell c1 hcb.1 hcb.2.1 hcb.2.2
        have hbk : b ≠ kb := by have := HBO3.out.r0; have := HBO3.out.rq; omega
        have hqb : b ≠ q := by have := HBO3.out.r0; have := HBO3.out.rq; omega
        have hdo := fun W hW => rdo_any W q s.n R hW K N HF.out.2.2.1 HF.out.2.1 (by omega)
        have hal := after_len s.n K N R
        have hcame := came_any s.n K N R HF.out.2.1 HF.out.1.nodup HF.out.2.2.2 HFI.out
        have HH := Lib.hid (HBO3.out.half hR ht)
        have HM4 := Lib.hid (HM3.out.turn ht (by have := HBO3.out.rq; omega) (by have := HBO3.out.pq; omega) (by have := HBO3.out.dq; omega))
        have hqt : w4.heap.size ≠ q := by have := HH.out.2.1.lq; omega
        have hkt : w4.heap.size ≠ kb := by have := HM4.out.lt; omega
        unfold DoSaid told at hdo
        unfold told
        generalize tellC K R = tc at *
        generalize tellB K R = tb at *
        generalize tellE s.n K N R = te at *
        generalize after s.n K N R = R' at *
        have HDO := Lib.hid hdo
        clear hR ht hcb HRT hdo HBO3 HM3 HFI
        have hb4 : Below w4.heap.size w4 (w4.alloc (.cells #[.int .i64 tc, .bool tb, .int .i64 te] 34)) := (Below.refl _ _).alloc (Nat.le_refl _) _
        have t0 : (w4.alloc (.cells #[.int .i64 tc, .bool tb, .int .i64 te] 34)).cell? ⟨w4.heap.size, 0, none⟩ = some (.int .i64 tc) := by simp [go_sem]
        have t2 : (w4.alloc (.cells #[.int .i64 tc, .bool tb, .int .i64 te] 34)).cell? ⟨w4.heap.size, 2, none⟩ = some (.int .i64 te) := by simp [go_sem]
        replace c0 := later' hb4 c0
        replace c1 := later' hb4 c1
        replace HH := Lib.hid (HH.out.later hb4)
        replace HM4 := Lib.hid (HM4.out.later hb4)
        go_wp2_with fail
        generalize (w4.alloc (.cells #[.int .i64 tc, .bool tb, .int .i64 te] 34)) = x4 at *
        generalize w4.heap.size = tq at *
        clear hb4
        refine (HDO.out x4 HH.out.2.1).mono ?_
        rintro e w5 ⟨rfl, hQ, ho⟩
        replace t0 := (World.cell?_of_block (w := x4) (ho.block tq (World.block_lt_of_cell? _ _ t0) hqt)).trans t0
        replace t2 := (World.cell?_of_block (w := x4) (ho.block tq (World.block_lt_of_cell? _ _ t2) hqt)).trans t2
        replace c0 := (World.cell?_of_block (w := x4) (ho.block b (World.block_lt_of_cell? _ _ c0) hqb)).trans c0
        replace c1 := (World.cell?_of_block (w := x4) (ho.block b (World.block_lt_of_cell? _ _ c1) hqb)).trans c1
        have HB5 := Lib.hid (both_of HH.out hQ ho)
        have HM5 := Lib.hid (HM4.out.one ho (by omega))
        clear hQ ho HH HM4 HDO hqt hqb
        rcases hcame with ⟨h0, h1, h2, h3, h4⟩ | ⟨h0, h1, h2, h3, h4⟩ | ⟨h0, h4⟩ | ⟨h0, h1, h4⟩
        · -- one more
          subst h0 h1
          have hwf := wf_small h2.1 h2.2
          have hlk := HM5.out.look N hwf
          rw [h3] at hlk
          have e1 : decide ((6 : Int) < 0) = false := rfl
          go_wp2_with (at_mapUpdate; refine wp_cput _ rfl _ _ _ rfl kb (2 * i) (ind R.all) dom rfl HM5.out (by omega) N 1 rfl rfl hwf (by decide) ?_; intro w9 hM8 hg8; rw [← h4] at hM8; have HB9 := Lib.hid (HB5.out.mapped HM5.out hg8 hkb); have HM9 := Lib.hid hM8; replace t0 := hg8.cell t0 (by simpa using hkt); replace t2 := hg8.cell t2 (by simpa using hkt); replace c0 := hg8.cell c0 (by simpa using hbk); replace c1 := hg8.cell c1 (by simpa using hbk); clear hM8 hg8 hlk)
          generalize dput dom N = dom' at *
          clear t0 t2 c0 c1 h2 h3 h4 hwf HB5 HM5
          have hRl' : R'.all.length ≤ i + 1 := by omega
          clear hal hRl HF
          have hnd : R'.all.Nodup := HB9.out.fit.1.nodup
          have hrg : ∀ x, x ∈ R'.all → 1 ≤ x ∧ x ≤ 65536 := HB9.out.fit.2.2.2
          have HSM := Lib.hid (cmap_made w9)
          have hbm : Below w9.heap.size w9 (w9.alloc (.map #[] 0)) := (Below.refl _ _).alloc (Nat.le_refl _) _
          have hqs : q < w9.heap.size := HB9.out.ref.lq
          have hks : kb ≠ w9.heap.size := by have := HM9.out.lt; omega
          replace HB9 := Lib.hid (HB9.out.later hbm)
          replace HM9 := Lib.hid (HM9.out.later hbm)
          generalize (w9.alloc (.map #[] 0)) = x9 at *
          generalize w9.heap.size = sb at *
          clear hbm
          have hd : ∀ m : Nat, q < m → m ≠ s.r ∧ m ≠ s.p ∧ m ≠ s.d := fun m hm => ⟨by have := HB9.out.rq; omega, by have := HB9.out.pq; omega, by have := HB9.out.dq; omega⟩
          refine (ring_list s R' x9 HB9.out.ring).mono ?_
          rintro e w10 ⟨v0, v1, v2, v3, rfl, r0, r1, r2, r3, hR, ht⟩
          have HFO := Lib.hid (show Fours w10 x9.heap.size w10.heap.size v0 v1 v2 v3 R' from ⟨r0, r1, r2, r3⟩)
          have HB10 := Lib.hid (HB9.out.turn hR ht)
          have HM10 := Lib.hid (HM9.out.turn ht (hd kb hkb).1 (hd kb hkb).2.1 (hd kb hkb).2.2)
          have HS10 := Lib.hid (HSM.out.turn ht (hd sb hqs).1 (hd sb hqs).2.1 (hd sb hqs).2.2)
          clear hR ht r0 r1 r2 r3 HB9 HM9 HSM hd
          go_wp2_with fail
          refine (ref_around v0 v1 v2 v3 R' _ _ w10 HFO.out (by omega) (Nat.le_refl _)).mono ?_
          rintro e w11 ⟨va, rfl, hrow, hb⟩
          obtain ⟨ao, capa, rfl, hcells⟩ := hrow
          have HB11 := Lib.hid (HB10.out.later hb)
          have HM11 := Lib.hid (HM10.out.later hb)
          have hS11 := HS10.out.later hb
          rw [← ind_nil] at hS11
          have HS11 := Lib.hid hS11
          have hsl : sb < w10.heap.size := HS10.out.lt
          have HCE := Lib.hid (show ∀ k x, R'.all[k]? = some x → ∃ g, ao = some ⟨g, 0, none⟩ ∧ g ≠ sb ∧ w11.cell? ⟨g, k, none⟩ = some (.int .i64 x) from fun k x hx => by
            obtain ⟨g, e, h1, _, h3⟩ := hcells (by have := (List.getElem?_eq_some_iff.1 hx).1; omega)
            exact ⟨g, e, by omega, h3 k x hx⟩)
          clear hb hS11 hcells HB10 HM10 HS10 HFO hsl
          go_wp2_with fail
          go_loopw [14] (fun s14 wr => ∃ k : Nat, k ≤ R'.all.length ∧ s14 = .int .i64 k ∧ CMap wr sb k (ind (R'.all.take k).reverse) (R'.all.take k).reverse ∧ w11.grownBy wr (some sb)) (fun s14 _ => R'.all.length - (intOf s14).toNat)
          case atStart => exact ⟨0, Nat.zero_le _, rfl, HS11.out, World.grownBy.refl _ _⟩
          case round =>
            obtain ⟨k, hk, rfl, hS, hgr⟩ := hrel
            have HS := Lib.hid hS
            have HGR := Lib.hid hgr
            clear hS hgr
            by_cases hlk : k < R'.all.length
            · have hlk' : (k : Int) < (R'.all.length : Int) := by omega
              have hx := List.getElem?_eq_getElem hlk
              have hxm := List.getElem_mem hlk
              have htk : (R'.all.take (k + 1)).reverse = R'.all[k]'hlk :: (R'.all.take k).reverse := by rw [List.take_succ_eq_append_getElem hlk]; simp
              have hxn : R'.all[k]'hlk ∉ (R'.all.take k).reverse := fun h => by
                have h2 : R'.all = R'.all.take k ++ R'.all[k]'hlk :: R'.all.drop (k + 1) := by rw [← List.drop_eq_getElem_cons hlk, List.take_append_drop]
                rw [h2] at hnd
                exact (List.nodup_append.1 hnd).2.2 _ (List.mem_reverse.1 h) _ (List.mem_cons_self ..) rfl
              generalize R'.all[k]'hlk = x at *
              obtain ⟨g, rfl, hgs, cx⟩ := HCE.out k x hx
              replace cx := HGR.out.cell cx (by simpa using hgs)
              have hwf := wf_small (hrg x hxm).1 (hrg x hxm).2
              have hlo := HS.out.look x hwf
              obtain ⟨ip1, ip2, ip3⟩ := ind_put hxn
              rw [ip3] at hlo
              go_wp2_with (at_mapUpdate; refine wp_cput _ rfl _ _ _ rfl sb k _ _ rfl HS.out (by omega) x 1 rfl rfl hwf (by decide) ?_; intro w12 hM8 hg8; rw [ip1, ip2, ← htk] at hM8; have HS12 := Lib.hid hM8; have HG12 := Lib.hid (HGR.out.trans hg8); clear hM8 hg8 hlo)
              exact ⟨⟨k + 1, by omega, by go_num, HS12.out, HG12.out⟩, by simp [intOf]; omega⟩
            · obtain rfl : k = R'.all.length := by omega
              generalize wr = wA at *
              have HBr := Lib.hid (HB11.out.mapped HS11.out HGR.out hqs)
              have HMr := Lib.hid (HM11.out.kept HGR.out (by simpa using hks))
              have e1 : ind (R'.all.take R'.all.length).reverse = ind R'.all := ind_congr fun x => by simp
              have e2 : ∀ x, x ∈ (R'.all.take R'.all.length).reverse → ind R'.all x = 1 := fun x hx => if_pos (by simpa using hx)
              have hS := HS.out
              rw [e1] at hS
              generalize (R'.all.take R'.all.length).reverse = sdom at *
              replace HS := Lib.hid hS
              have HE2 := Lib.hid e2
              clear e1 e2 hS HB11 HM11 HS11 HGR HCE hnd hrg
              have hsn : R'.all.length ≤ 100 := by omega
              have HRL := Lib.hid (show ∀ m, m = R'.all.length → m ≤ i + 1 from fun m e => by omega)
              clear hRl'
              generalize R'.all.length = sn at HS hsn ⊢
              go_wp2_with (at_range; refine wp_crange _ rfl _ rfl kb (2 * i + 1) (ind R'.all) dom' rfl HMr.out ?_; intro w13 hcr hb13 hs13)
              go_frame
              go_loopw [15] (fun _ wq => CRange wq kb wA.heap.size (2 * i + 1) (ind R'.all) dom' ∧ Below wA.heap.size wA wq) (fun _ wq => wq.rangeLeft kb wA.heap.size)
              case atStart => exact ⟨hcr, hb13⟩
              case round =>
                clear hcr hb13 hs13
                obtain ⟨hcr, hbq⟩ := hrel
                go_wp2_with (at_next; refine wp_cnext _ rfl _ rfl kb wA.heap.size (2 * i + 1) (ind R'.all) dom' rfl hcr ?_ ?_)
                · intro _
                  generalize wr = wB at *
                  have HBq := Lib.hid (HBr.out.later hbq)
                  have HMq := Lib.hid (HMr.out.later hbq)
                  have HSq := Lib.hid (HS.out.later hbq)
                  clear hcr hbq HBr HMr HS
                  go_wp2_with (at_range; refine wp_crange _ rfl _ rfl sb sn (ind R'.all) sdom rfl HSq.out ?_; intro w14 hcr hb14 hs14)
                  go_frame
                  go_loopw [17] (fun _ wz => CRange wz sb wB.heap.size sn (ind R'.all) sdom ∧ Below wB.heap.size wB wz) (fun _ wz => wz.rangeLeft sb wB.heap.size)
                  case atStart => exact ⟨hcr, hb14⟩
                  case round =>
                    clear hcr hb14 hs14
                    obtain ⟨hcr, hbz⟩ := hrel
                    go_wp2_with (at_next; refine wp_cnext _ rfl _ rfl sb wB.heap.size sn (ind R'.all) sdom rfl hcr ?_ ?_)
                    · intro _
                      have HBz := Lib.hid (HBq.out.later hbz)
                      have HMz := Lib.hid (HMq.out.later hbz).mono
                      go_wp2_with fail
                      exact ⟨⟨i + 1, R', dom', by omega, HRL.out _ rfl, by go_num, HBz.out, HMz.out⟩, by simp [intOf]; omega⟩
                    · intro x w15 hwx hwc hxd hcr1 hlt1 hg15 hs15 hen
                      have hone := HE2.out x hxd
                      rw [hone] at hen ⊢
                      have hbz' := hbz.grown hg15 hbz.size (fun j hj => by cases hj; exact Nat.le_refl _)
                      have hlo := (HMq.out.later hbz').look x hwx
                      rw [hone] at hlo
                      clear hone
                      go_wp2_with fail
                      go_roundw
                      case rel => exact ⟨hcr1, hbz'⟩
                      case measure => exact hlt1
                · intro x w15 hwx hwc hxd hcr1 hlt1 hg15 hs15 hen
                  have hbz' := hbq.grown hg15 hbq.size (fun j hj => by cases hj; exact Nat.le_refl _)
                  have hlo := (HS.out.later hbz').look x hwx
                  generalize ind R'.all x = z at *
                  have hz : (z != z) = false := by simp
                  go_wp2_with fail
                  go_roundw
                  case rel => exact ⟨hcr1, hbz'⟩
                  case measure => exact hlt1
        · -- one fell
          subst h0
          have hwf := wf_small h2.1 h2.2
          have hlk := HM5.out.look tc hwf
          rw [h3] at hlk
          have e2 : (K == 0) = false := by simp; omega
          by_cases k6 : 6 < K
          · have e3 : decide (6 < K) = true := decide_eq_true k6
            go_wp2_with (at_mapUpdate; refine wp_cput _ rfl _ _ _ rfl kb (2 * i) (ind R.all) dom rfl HM5.out (by omega) tc 0 rfl rfl hwf (by decide) ?_; intro w9 hM8 hg8; rw [← h4] at hM8; have HB9 := Lib.hid (HB5.out.mapped HM5.out hg8 hkb); have HM9 := Lib.hid hM8; clear hM8 hg8 hlk)
            generalize dput dom tc = dom' at *
            clear t0 t2 c0 c1 h1 h2 h3 h4 hwf e2 e3 k6 HB5 HM5
            have hRl' : R'.all.length ≤ i + 1 := by omega
            clear hal hRl HF
            have hnd : R'.all.Nodup := HB9.out.fit.1.nodup
            have hrg : ∀ x, x ∈ R'.all → 1 ≤ x ∧ x ≤ 65536 := HB9.out.fit.2.2.2
            have HSM := Lib.hid (cmap_made w9)
            have hbm : Below w9.heap.size w9 (w9.alloc (.map #[] 0)) := (Below.refl _ _).alloc (Nat.le_refl _) _
            have hqs : q < w9.heap.size := HB9.out.ref.lq
            have hks : kb ≠ w9.heap.size := by have := HM9.out.lt; omega
            replace HB9 := Lib.hid (HB9.out.later hbm)
            replace HM9 := Lib.hid (HM9.out.later hbm)
            generalize (w9.alloc (.map #[] 0)) = x9 at *
            generalize w9.heap.size = sb at *
            clear hbm
            have hd : ∀ m : Nat, q < m → m ≠ s.r ∧ m ≠ s.p ∧ m ≠ s.d := fun m hm => ⟨by have := HB9.out.rq; omega, by have := HB9.out.pq; omega, by have := HB9.out.dq; omega⟩
            refine (ring_list s R' x9 HB9.out.ring).mono ?_
            rintro e w10 ⟨v0, v1, v2, v3, rfl, r0, r1, r2, r3, hR, ht⟩
            have HFO := Lib.hid (show Fours w10 x9.heap.size w10.heap.size v0 v1 v2 v3 R' from ⟨r0, r1, r2, r3⟩)
            have HB10 := Lib.hid (HB9.out.turn hR ht)
            have HM10 := Lib.hid (HM9.out.turn ht (hd kb hkb).1 (hd kb hkb).2.1 (hd kb hkb).2.2)
            have HS10 := Lib.hid (HSM.out.turn ht (hd sb hqs).1 (hd sb hqs).2.1 (hd sb hqs).2.2)
            clear hR ht r0 r1 r2 r3 HB9 HM9 HSM hd
            go_wp2_with fail
            refine (ref_around v0 v1 v2 v3 R' _ _ w10 HFO.out (by omega) (Nat.le_refl _)).mono ?_
            rintro e w11 ⟨va, rfl, hrow, hb⟩
            obtain ⟨ao, capa, rfl, hcells⟩ := hrow
            have HB11 := Lib.hid (HB10.out.later hb)
            have HM11 := Lib.hid (HM10.out.later hb)
            have hS11 := HS10.out.later hb
            rw [← ind_nil] at hS11
            have HS11 := Lib.hid hS11
            have hsl : sb < w10.heap.size := HS10.out.lt
            have HCE := Lib.hid (show ∀ k x, R'.all[k]? = some x → ∃ g, ao = some ⟨g, 0, none⟩ ∧ g ≠ sb ∧ w11.cell? ⟨g, k, none⟩ = some (.int .i64 x) from fun k x hx => by
              obtain ⟨g, e, h1, _, h3⟩ := hcells (by have := (List.getElem?_eq_some_iff.1 hx).1; omega)
              exact ⟨g, e, by omega, h3 k x hx⟩)
            clear hb hS11 hcells HB10 HM10 HS10 HFO hsl
            go_wp2_with fail
            go_loopw [14] (fun s14 wr => ∃ k : Nat, k ≤ R'.all.length ∧ s14 = .int .i64 k ∧ CMap wr sb k (ind (R'.all.take k).reverse) (R'.all.take k).reverse ∧ w11.grownBy wr (some sb)) (fun s14 _ => R'.all.length - (intOf s14).toNat)
            case atStart => exact ⟨0, Nat.zero_le _, rfl, HS11.out, World.grownBy.refl _ _⟩
            case round =>
              obtain ⟨k, hk, rfl, hS, hgr⟩ := hrel
              have HS := Lib.hid hS
              have HGR := Lib.hid hgr
              clear hS hgr
              by_cases hlk : k < R'.all.length
              · have hlk' : (k : Int) < (R'.all.length : Int) := by omega
                have hx := List.getElem?_eq_getElem hlk
                have hxm := List.getElem_mem hlk
                have htk : (R'.all.take (k + 1)).reverse = R'.all[k]'hlk :: (R'.all.take k).reverse := by rw [List.take_succ_eq_append_getElem hlk]; simp
                have hxn : R'.all[k]'hlk ∉ (R'.all.take k).reverse := fun h => by
                  have h2 : R'.all = R'.all.take k ++ R'.all[k]'hlk :: R'.all.drop (k + 1) := by rw [← List.drop_eq_getElem_cons hlk, List.take_append_drop]
                  rw [h2] at hnd
                  exact (List.nodup_append.1 hnd).2.2 _ (List.mem_reverse.1 h) _ (List.mem_cons_self ..) rfl
                generalize R'.all[k]'hlk = x at *
                obtain ⟨g, rfl, hgs, cx⟩ := HCE.out k x hx
                replace cx := HGR.out.cell cx (by simpa using hgs)
                have hwf := wf_small (hrg x hxm).1 (hrg x hxm).2
                have hlo := HS.out.look x hwf
                obtain ⟨ip1, ip2, ip3⟩ := ind_put hxn
                rw [ip3] at hlo
                go_wp2_with (at_mapUpdate; refine wp_cput _ rfl _ _ _ rfl sb k _ _ rfl HS.out (by omega) x 1 rfl rfl hwf (by decide) ?_; intro w12 hM8 hg8; rw [ip1, ip2, ← htk] at hM8; have HS12 := Lib.hid hM8; have HG12 := Lib.hid (HGR.out.trans hg8); clear hM8 hg8 hlo)
                exact ⟨⟨k + 1, by omega, by go_num, HS12.out, HG12.out⟩, by simp [intOf]; omega⟩
              · obtain rfl : k = R'.all.length := by omega
                generalize wr = wA at *
                have HBr := Lib.hid (HB11.out.mapped HS11.out HGR.out hqs)
                have HMr := Lib.hid (HM11.out.kept HGR.out (by simpa using hks))
                have e1 : ind (R'.all.take R'.all.length).reverse = ind R'.all := ind_congr fun x => by simp
                have e2 : ∀ x, x ∈ (R'.all.take R'.all.length).reverse → ind R'.all x = 1 := fun x hx => if_pos (by simpa using hx)
                have hS := HS.out
                rw [e1] at hS
                generalize (R'.all.take R'.all.length).reverse = sdom at *
                replace HS := Lib.hid hS
                have HE2 := Lib.hid e2
                clear e1 e2 hS HB11 HM11 HS11 HGR HCE hnd hrg
                have hsn : R'.all.length ≤ 100 := by omega
                have HRL := Lib.hid (show ∀ m, m = R'.all.length → m ≤ i + 1 from fun m e => by omega)
                clear hRl'
                generalize R'.all.length = sn at HS hsn ⊢
                go_wp2_with (at_range; refine wp_crange _ rfl _ rfl kb (2 * i + 1) (ind R'.all) dom' rfl HMr.out ?_; intro w13 hcr hb13 hs13)
                go_frame
                go_loopw [15] (fun _ wq => CRange wq kb wA.heap.size (2 * i + 1) (ind R'.all) dom' ∧ Below wA.heap.size wA wq) (fun _ wq => wq.rangeLeft kb wA.heap.size)
                case atStart => exact ⟨hcr, hb13⟩
                case round =>
                  clear hcr hb13 hs13
                  obtain ⟨hcr, hbq⟩ := hrel
                  go_wp2_with (at_next; refine wp_cnext _ rfl _ rfl kb wA.heap.size (2 * i + 1) (ind R'.all) dom' rfl hcr ?_ ?_)
                  · intro _
                    generalize wr = wB at *
                    have HBq := Lib.hid (HBr.out.later hbq)
                    have HMq := Lib.hid (HMr.out.later hbq)
                    have HSq := Lib.hid (HS.out.later hbq)
                    clear hcr hbq HBr HMr HS
                    go_wp2_with (at_range; refine wp_crange _ rfl _ rfl sb sn (ind R'.all) sdom rfl HSq.out ?_; intro w14 hcr hb14 hs14)
                    go_frame
                    go_loopw [17] (fun _ wz => CRange wz sb wB.heap.size sn (ind R'.all) sdom ∧ Below wB.heap.size wB wz) (fun _ wz => wz.rangeLeft sb wB.heap.size)
                    case atStart => exact ⟨hcr, hb14⟩
                    case round =>
                      clear hcr hb14 hs14
                      obtain ⟨hcr, hbz⟩ := hrel
                      go_wp2_with (at_next; refine wp_cnext _ rfl _ rfl sb wB.heap.size sn (ind R'.all) sdom rfl hcr ?_ ?_)
                      · intro _
                        have HBz := Lib.hid (HBq.out.later hbz)
                        have HMz := Lib.hid (HMq.out.later hbz).mono
                        go_wp2_with fail
                        exact ⟨⟨i + 1, R', dom', by omega, HRL.out _ rfl, by go_num, HBz.out, HMz.out⟩, by simp [intOf]; omega⟩
                      · intro x w15 hwx hwc hxd hcr1 hlt1 hg15 hs15 hen
                        have hone := HE2.out x hxd
                        rw [hone] at hen ⊢
                        have hbz' := hbz.grown hg15 hbz.size (fun j hj => by cases hj; exact Nat.le_refl _)
                        have hlo := (HMq.out.later hbz').look x hwx
                        rw [hone] at hlo
                        clear hone
                        go_wp2_with fail
                        go_roundw
                        case rel => exact ⟨hcr1, hbz'⟩
                        case measure => exact hlt1
                  · intro x w15 hwx hwc hxd hcr1 hlt1 hg15 hs15 hen
                    have hbz' := hbq.grown hg15 hbq.size (fun j hj => by cases hj; exact Nat.le_refl _)
                    have hlo := (HS.out.later hbz').look x hwx
                    generalize ind R'.all x = z at *
                    have hz : (z != z) = false := by simp
                    go_wp2_with fail
                    go_roundw
                    case rel => exact ⟨hcr1, hbz'⟩
                    case measure => exact hlt1
          · have e3 : decide (6 < K) = false := decide_eq_false k6
            have e4 : decide (K < 0) = true := decide_eq_true (by omega)
            go_wp2_with (at_mapUpdate; refine wp_cput _ rfl _ _ _ rfl kb (2 * i) (ind R.all) dom rfl HM5.out (by omega) tc 0 rfl rfl hwf (by decide) ?_; intro w9 hM8 hg8; rw [← h4] at hM8; have HB9 := Lib.hid (HB5.out.mapped HM5.out hg8 hkb); have HM9 := Lib.hid hM8; clear hM8 hg8 hlk)
            generalize dput dom tc = dom' at *
            clear t0 t2 c0 c1 h1 h2 h3 h4 hwf e2 e3 e4 k6 HB5 HM5
            have hRl' : R'.all.length ≤ i + 1 := by omega
            clear hal hRl HF
            have hnd : R'.all.Nodup := HB9.out.fit.1.nodup
            have hrg : ∀ x, x ∈ R'.all → 1 ≤ x ∧ x ≤ 65536 := HB9.out.fit.2.2.2
            have HSM := Lib.hid (cmap_made w9)
            have hbm : Below w9.heap.size w9 (w9.alloc (.map #[] 0)) := (Below.refl _ _).alloc (Nat.le_refl _) _
            have hqs : q < w9.heap.size := HB9.out.ref.lq
            have hks : kb ≠ w9.heap.size := by have := HM9.out.lt; omega
            replace HB9 := Lib.hid (HB9.out.later hbm)
            replace HM9 := Lib.hid (HM9.out.later hbm)
            generalize (w9.alloc (.map #[] 0)) = x9 at *
            generalize w9.heap.size = sb at *
            clear hbm
            have hd : ∀ m : Nat, q < m → m ≠ s.r ∧ m ≠ s.p ∧ m ≠ s.d := fun m hm => ⟨by have := HB9.out.rq; omega, by have := HB9.out.pq; omega, by have := HB9.out.dq; omega⟩
            refine (ring_list s R' x9 HB9.out.ring).mono ?_
            rintro e w10 ⟨v0, v1, v2, v3, rfl, r0, r1, r2, r3, hR, ht⟩
            have HFO := Lib.hid (show Fours w10 x9.heap.size w10.heap.size v0 v1 v2 v3 R' from ⟨r0, r1, r2, r3⟩)
            have HB10 := Lib.hid (HB9.out.turn hR ht)
            have HM10 := Lib.hid (HM9.out.turn ht (hd kb hkb).1 (hd kb hkb).2.1 (hd kb hkb).2.2)
            have HS10 := Lib.hid (HSM.out.turn ht (hd sb hqs).1 (hd sb hqs).2.1 (hd sb hqs).2.2)
            clear hR ht r0 r1 r2 r3 HB9 HM9 HSM hd
            go_wp2_with fail
            refine (ref_around v0 v1 v2 v3 R' _ _ w10 HFO.out (by omega) (Nat.le_refl _)).mono ?_
            rintro e w11 ⟨va, rfl, hrow, hb⟩
            obtain ⟨ao, capa, rfl, hcells⟩ := hrow
            have HB11 := Lib.hid (HB10.out.later hb)
            have HM11 := Lib.hid (HM10.out.later hb)
            have hS11 := HS10.out.later hb
            rw [← ind_nil] at hS11
            have HS11 := Lib.hid hS11
            have hsl : sb < w10.heap.size := HS10.out.lt
            have HCE := Lib.hid (show ∀ k x, R'.all[k]? = some x → ∃ g, ao = some ⟨g, 0, none⟩ ∧ g ≠ sb ∧ w11.cell? ⟨g, k, none⟩ = some (.int .i64 x) from fun k x hx => by
              obtain ⟨g, e, h1, _, h3⟩ := hcells (by have := (List.getElem?_eq_some_iff.1 hx).1; omega)
              exact ⟨g, e, by omega, h3 k x hx⟩)
            clear hb hS11 hcells HB10 HM10 HS10 HFO hsl
            go_wp2_with fail
            go_loopw [14] (fun s14 wr => ∃ k : Nat, k ≤ R'.all.length ∧ s14 = .int .i64 k ∧ CMap wr sb k (ind (R'.all.take k).reverse) (R'.all.take k).reverse ∧ w11.grownBy wr (some sb)) (fun s14 _ => R'.all.length - (intOf s14).toNat)
            case atStart => exact ⟨0, Nat.zero_le _, rfl, HS11.out, World.grownBy.refl _ _⟩
            case round =>
              obtain ⟨k, hk, rfl, hS, hgr⟩ := hrel
              have HS := Lib.hid hS
              have HGR := Lib.hid hgr
              clear hS hgr
              by_cases hlk : k < R'.all.length
              · have hlk' : (k : Int) < (R'.all.length : Int) := by omega
                have hx := List.getElem?_eq_getElem hlk
                have hxm := List.getElem_mem hlk
                have htk : (R'.all.take (k + 1)).reverse = R'.all[k]'hlk :: (R'.all.take k).reverse := by rw [List.take_succ_eq_append_getElem hlk]; simp
                have hxn : R'.all[k]'hlk ∉ (R'.all.take k).reverse := fun h => by
                  have h2 : R'.all = R'.all.take k ++ R'.all[k]'hlk :: R'.all.drop (k + 1) := by rw [← List.drop_eq_getElem_cons hlk, List.take_append_drop]
                  rw [h2] at hnd
                  exact (List.nodup_append.1 hnd).2.2 _ (List.mem_reverse.1 h) _ (List.mem_cons_self ..) rfl
                generalize R'.all[k]'hlk = x at *
                obtain ⟨g, rfl, hgs, cx⟩ := HCE.out k x hx
                replace cx := HGR.out.cell cx (by simpa using hgs)
                have hwf := wf_small (hrg x hxm).1 (hrg x hxm).2
                have hlo := HS.out.look x hwf
                obtain ⟨ip1, ip2, ip3⟩ := ind_put hxn
                rw [ip3] at hlo
                go_wp2_with (at_mapUpdate; refine wp_cput _ rfl _ _ _ rfl sb k _ _ rfl HS.out (by omega) x 1 rfl rfl hwf (by decide) ?_; intro w12 hM8 hg8; rw [ip1, ip2, ← htk] at hM8; have HS12 := Lib.hid hM8; have HG12 := Lib.hid (HGR.out.trans hg8); clear hM8 hg8 hlo)
                exact ⟨⟨k + 1, by omega, by go_num, HS12.out, HG12.out⟩, by simp [intOf]; omega⟩
              · obtain rfl : k = R'.all.length := by omega
                generalize wr = wA at *
                have HBr := Lib.hid (HB11.out.mapped HS11.out HGR.out hqs)
                have HMr := Lib.hid (HM11.out.kept HGR.out (by simpa using hks))
                have e1 : ind (R'.all.take R'.all.length).reverse = ind R'.all := ind_congr fun x => by simp
                have e2 : ∀ x, x ∈ (R'.all.take R'.all.length).reverse → ind R'.all x = 1 := fun x hx => if_pos (by simpa using hx)
                have hS := HS.out
                rw [e1] at hS
                generalize (R'.all.take R'.all.length).reverse = sdom at *
                replace HS := Lib.hid hS
                have HE2 := Lib.hid e2
                clear e1 e2 hS HB11 HM11 HS11 HGR HCE hnd hrg
                have hsn : R'.all.length ≤ 100 := by omega
                have HRL := Lib.hid (show ∀ m, m = R'.all.length → m ≤ i + 1 from fun m e => by omega)
                clear hRl'
                generalize R'.all.length = sn at HS hsn ⊢
                go_wp2_with (at_range; refine wp_crange _ rfl _ rfl kb (2 * i + 1) (ind R'.all) dom' rfl HMr.out ?_; intro w13 hcr hb13 hs13)
                go_frame
                go_loopw [15] (fun _ wq => CRange wq kb wA.heap.size (2 * i + 1) (ind R'.all) dom' ∧ Below wA.heap.size wA wq) (fun _ wq => wq.rangeLeft kb wA.heap.size)
                case atStart => exact ⟨hcr, hb13⟩
                case round =>
                  clear hcr hb13 hs13
                  obtain ⟨hcr, hbq⟩ := hrel
                  go_wp2_with (at_next; refine wp_cnext _ rfl _ rfl kb wA.heap.size (2 * i + 1) (ind R'.all) dom' rfl hcr ?_ ?_)
                  · intro _
                    generalize wr = wB at *
                    have HBq := Lib.hid (HBr.out.later hbq)
                    have HMq := Lib.hid (HMr.out.later hbq)
                    have HSq := Lib.hid (HS.out.later hbq)
                    clear hcr hbq HBr HMr HS
                    go_wp2_with (at_range; refine wp_crange _ rfl _ rfl sb sn (ind R'.all) sdom rfl HSq.out ?_; intro w14 hcr hb14 hs14)
                    go_frame
                    go_loopw [17] (fun _ wz => CRange wz sb wB.heap.size sn (ind R'.all) sdom ∧ Below wB.heap.size wB wz) (fun _ wz => wz.rangeLeft sb wB.heap.size)
                    case atStart => exact ⟨hcr, hb14⟩
                    case round =>
                      clear hcr hb14 hs14
                      obtain ⟨hcr, hbz⟩ := hrel
                      go_wp2_with (at_next; refine wp_cnext _ rfl _ rfl sb wB.heap.size sn (ind R'.all) sdom rfl hcr ?_ ?_)
                      · intro _
                        have HBz := Lib.hid (HBq.out.later hbz)
                        have HMz := Lib.hid (HMq.out.later hbz).mono
                        go_wp2_with fail
                        exact ⟨⟨i + 1, R', dom', by omega, HRL.out _ rfl, by go_num, HBz.out, HMz.out⟩, by simp [intOf]; omega⟩
                      · intro x w15 hwx hwc hxd hcr1 hlt1 hg15 hs15 hen
                        have hone := HE2.out x hxd
                        rw [hone] at hen ⊢
                        have hbz' := hbz.grown hg15 hbz.size (fun j hj => by cases hj; exact Nat.le_refl _)
                        have hlo := (HMq.out.later hbz').look x hwx
                        rw [hone] at hlo
                        clear hone
                        go_wp2_with fail
                        go_roundw
                        case rel => exact ⟨hcr1, hbz'⟩
                        case measure => exact hlt1
                  · intro x w15 hwx hwc hxd hcr1 hlt1 hg15 hs15 hen
                    have hbz' := hbq.grown hg15 hbq.size (fun j hj => by cases hj; exact Nat.le_refl _)
                    have hlo := (HS.out.later hbz').look x hwx
                    generalize ind R'.all x = z at *
                    have hz : (z != z) = false := by simp
                    go_wp2_with fail
                    go_roundw
                    case rel => exact ⟨hcr1, hbz'⟩
                    case measure => exact hlt1
        · -- refused
          have e1 : (te == 0) = false := by simpa using h0
          rw [← h4] at HM5
          replace HM5 := Lib.hid HM5.out.mono
          have HB9 := HB5
          have HM9 := HM5
          go_wp2_with fail
          generalize w5 = w9 at *
          generalize dom = dom' at *
          clear t0 t2 c0 c1 h0 h4 e1 HB5 HM5
          have hRl' : R'.all.length ≤ i + 1 := by omega
          clear hal hRl HF
          have hnd : R'.all.Nodup := HB9.out.fit.1.nodup
          have hrg : ∀ x, x ∈ R'.all → 1 ≤ x ∧ x ≤ 65536 := HB9.out.fit.2.2.2
          have HSM := Lib.hid (cmap_made w9)
          have hbm : Below w9.heap.size w9 (w9.alloc (.map #[] 0)) := (Below.refl _ _).alloc (Nat.le_refl _) _
          have hqs : q < w9.heap.size := HB9.out.ref.lq
          have hks : kb ≠ w9.heap.size := by have := HM9.out.lt; omega
          replace HB9 := Lib.hid (HB9.out.later hbm)
          replace HM9 := Lib.hid (HM9.out.later hbm)
          generalize (w9.alloc (.map #[] 0)) = x9 at *
          generalize w9.heap.size = sb at *
          clear hbm
          have hd : ∀ m : Nat, q < m → m ≠ s.r ∧ m ≠ s.p ∧ m ≠ s.d := fun m hm => ⟨by have := HB9.out.rq; omega, by have := HB9.out.pq; omega, by have := HB9.out.dq; omega⟩
          refine (ring_list s R' x9 HB9.out.ring).mono ?_
          rintro e w10 ⟨v0, v1, v2, v3, rfl, r0, r1, r2, r3, hR, ht⟩
          have HFO := Lib.hid (show Fours w10 x9.heap.size w10.heap.size v0 v1 v2 v3 R' from ⟨r0, r1, r2, r3⟩)
          have HB10 := Lib.hid (HB9.out.turn hR ht)
          have HM10 := Lib.hid (HM9.out.turn ht (hd kb hkb).1 (hd kb hkb).2.1 (hd kb hkb).2.2)
          have HS10 := Lib.hid (HSM.out.turn ht (hd sb hqs).1 (hd sb hqs).2.1 (hd sb hqs).2.2)
          clear hR ht r0 r1 r2 r3 HB9 HM9 HSM hd
          go_wp2_with fail
          refine (ref_around v0 v1 v2 v3 R' _ _ w10 HFO.out (by omega) (Nat.le_refl _)).mono ?_
          rintro e w11 ⟨va, rfl, hrow, hb⟩
          obtain ⟨ao, capa, rfl, hcells⟩ := hrow
          have HB11 := Lib.hid (HB10.out.later hb)
          have HM11 := Lib.hid (HM10.out.later hb)
          have hS11 := HS10.out.later hb
          rw [← ind_nil] at hS11
          have HS11 := Lib.hid hS11
          have hsl : sb < w10.heap.size := HS10.out.lt
          have HCE := Lib.hid (show ∀ k x, R'.all[k]? = some x → ∃ g, ao = some ⟨g, 0, none⟩ ∧ g ≠ sb ∧ w11.cell? ⟨g, k, none⟩ = some (.int .i64 x) from fun k x hx => by
            obtain ⟨g, e, h1, _, h3⟩ := hcells (by have := (List.getElem?_eq_some_iff.1 hx).1; omega)
            exact ⟨g, e, by omega, h3 k x hx⟩)
          clear hb hS11 hcells HB10 HM10 HS10 HFO hsl
          go_wp2_with fail
          go_loopw [14] (fun s14 wr => ∃ k : Nat, k ≤ R'.all.length ∧ s14 = .int .i64 k ∧ CMap wr sb k (ind (R'.all.take k).reverse) (R'.all.take k).reverse ∧ w11.grownBy wr (some sb)) (fun s14 _ => R'.all.length - (intOf s14).toNat)
          case atStart => exact ⟨0, Nat.zero_le _, rfl, HS11.out, World.grownBy.refl _ _⟩
          case round =>
            obtain ⟨k, hk, rfl, hS, hgr⟩ := hrel
            have HS := Lib.hid hS
            have HGR := Lib.hid hgr
            clear hS hgr
            by_cases hlk : k < R'.all.length
            · have hlk' : (k : Int) < (R'.all.length : Int) := by omega
              have hx := List.getElem?_eq_getElem hlk
              have hxm := List.getElem_mem hlk
              have htk : (R'.all.take (k + 1)).reverse = R'.all[k]'hlk :: (R'.all.take k).reverse := by rw [List.take_succ_eq_append_getElem hlk]; simp
              have hxn : R'.all[k]'hlk ∉ (R'.all.take k).reverse := fun h => by
                have h2 : R'.all = R'.all.take k ++ R'.all[k]'hlk :: R'.all.drop (k + 1) := by rw [← List.drop_eq_getElem_cons hlk, List.take_append_drop]
                rw [h2] at hnd
                exact (List.nodup_append.1 hnd).2.2 _ (List.mem_reverse.1 h) _ (List.mem_cons_self ..) rfl
              generalize R'.all[k]'hlk = x at *
              obtain ⟨g, rfl, hgs, cx⟩ := HCE.out k x hx
              replace cx := HGR.out.cell cx (by simpa using hgs)
              have hwf := wf_small (hrg x hxm).1 (hrg x hxm).2
              have hlo := HS.out.look x hwf
              obtain ⟨ip1, ip2, ip3⟩ := ind_put hxn
              rw [ip3] at hlo
              go_wp2_with (at_mapUpdate; refine wp_cput _ rfl _ _ _ rfl sb k _ _ rfl HS.out (by omega) x 1 rfl rfl hwf (by decide) ?_; intro w12 hM8 hg8; rw [ip1, ip2, ← htk] at hM8; have HS12 := Lib.hid hM8; have HG12 := Lib.hid (HGR.out.trans hg8); clear hM8 hg8 hlo)
              exact ⟨⟨k + 1, by omega, by go_num, HS12.out, HG12.out⟩, by simp [intOf]; omega⟩
            · obtain rfl : k = R'.all.length := by omega
              generalize wr = wA at *
              have HBr := Lib.hid (HB11.out.mapped HS11.out HGR.out hqs)
              have HMr := Lib.hid (HM11.out.kept HGR.out (by simpa using hks))
              have e1 : ind (R'.all.take R'.all.length).reverse = ind R'.all := ind_congr fun x => by simp
              have e2 : ∀ x, x ∈ (R'.all.take R'.all.length).reverse → ind R'.all x = 1 := fun x hx => if_pos (by simpa using hx)
              have hS := HS.out
              rw [e1] at hS
              generalize (R'.all.take R'.all.length).reverse = sdom at *
              replace HS := Lib.hid hS
              have HE2 := Lib.hid e2
              clear e1 e2 hS HB11 HM11 HS11 HGR HCE hnd hrg
              have hsn : R'.all.length ≤ 100 := by omega
              have HRL := Lib.hid (show ∀ m, m = R'.all.length → m ≤ i + 1 from fun m e => by omega)
              clear hRl'
              generalize R'.all.length = sn at HS hsn ⊢
              go_wp2_with (at_range; refine wp_crange _ rfl _ rfl kb (2 * i + 1) (ind R'.all) dom' rfl HMr.out ?_; intro w13 hcr hb13 hs13)
              go_frame
              go_loopw [15] (fun _ wq => CRange wq kb wA.heap.size (2 * i + 1) (ind R'.all) dom' ∧ Below wA.heap.size wA wq) (fun _ wq => wq.rangeLeft kb wA.heap.size)
              case atStart => exact ⟨hcr, hb13⟩
              case round =>
                clear hcr hb13 hs13
                obtain ⟨hcr, hbq⟩ := hrel
                go_wp2_with (at_next; refine wp_cnext _ rfl _ rfl kb wA.heap.size (2 * i + 1) (ind R'.all) dom' rfl hcr ?_ ?_)
                · intro _
                  generalize wr = wB at *
                  have HBq := Lib.hid (HBr.out.later hbq)
                  have HMq := Lib.hid (HMr.out.later hbq)
                  have HSq := Lib.hid (HS.out.later hbq)
                  clear hcr hbq HBr HMr HS
                  go_wp2_with (at_range; refine wp_crange _ rfl _ rfl sb sn (ind R'.all) sdom rfl HSq.out ?_; intro w14 hcr hb14 hs14)
                  go_frame
                  go_loopw [17] (fun _ wz => CRange wz sb wB.heap.size sn (ind R'.all) sdom ∧ Below wB.heap.size wB wz) (fun _ wz => wz.rangeLeft sb wB.heap.size)
                  case atStart => exact ⟨hcr, hb14⟩
                  case round =>
                    clear hcr hb14 hs14
                    obtain ⟨hcr, hbz⟩ := hrel
                    go_wp2_with (at_next; refine wp_cnext _ rfl _ rfl sb wB.heap.size sn (ind R'.all) sdom rfl hcr ?_ ?_)
                    · intro _
                      have HBz := Lib.hid (HBq.out.later hbz)
                      have HMz := Lib.hid (HMq.out.later hbz).mono
                      go_wp2_with fail
                      exact ⟨⟨i + 1, R', dom', by omega, HRL.out _ rfl, by go_num, HBz.out, HMz.out⟩, by simp [intOf]; omega⟩
                    · intro x w15 hwx hwc hxd hcr1 hlt1 hg15 hs15 hen
                      have hone := HE2.out x hxd
                      rw [hone] at hen ⊢
                      have hbz' := hbz.grown hg15 hbz.size (fun j hj => by cases hj; exact Nat.le_refl _)
                      have hlo := (HMq.out.later hbz').look x hwx
                      rw [hone] at hlo
                      clear hone
                      go_wp2_with fail
                      go_roundw
                      case rel => exact ⟨hcr1, hbz'⟩
                      case measure => exact hlt1
                · intro x w15 hwx hwc hxd hcr1 hlt1 hg15 hs15 hen
                  have hbz' := hbq.grown hg15 hbq.size (fun j hj => by cases hj; exact Nat.le_refl _)
                  have hlo := (HS.out.later hbz').look x hwx
                  generalize ind R'.all x = z at *
                  have hz : (z != z) = false := by simp
                  go_wp2_with fail
                  go_roundw
                  case rel => exact ⟨hcr1, hbz'⟩
                  case measure => exact hlt1
        · -- the same cells
          subst h0
          rw [← h4] at HM5
          replace HM5 := Lib.hid HM5.out.mono
          have e2 : (K == 0) = false := by simp; omega
          have e3 : decide (6 < K) = false := decide_eq_false (by omega)
          have e4 : decide (K < 0) = false := decide_eq_false (by omega)
          have HB9 := HB5
          have HM9 := HM5
          go_wp2_with fail
          generalize w5 = w9 at *
          generalize dom = dom' at *
          clear t0 t2 c0 c1 h1 h4 e2 e3 e4 HB5 HM5
          have hRl' : R'.all.length ≤ i + 1 := by omega
          clear hal hRl HF
          have hnd : R'.all.Nodup := HB9.out.fit.1.nodup
          have hrg : ∀ x, x ∈ R'.all → 1 ≤ x ∧ x ≤ 65536 := HB9.out.fit.2.2.2
          have HSM := Lib.hid (cmap_made w9)
          have hbm : Below w9.heap.size w9 (w9.alloc (.map #[] 0)) := (Below.refl _ _).alloc (Nat.le_refl _) _
          have hqs : q < w9.heap.size := HB9.out.ref.lq
          have hks : kb ≠ w9.heap.size := by have := HM9.out.lt; omega
          replace HB9 := Lib.hid (HB9.out.later hbm)
          replace HM9 := Lib.hid (HM9.out.later hbm)
          generalize (w9.alloc (.map #[] 0)) = x9 at *
          generalize w9.heap.size = sb at *
          clear hbm
          have hd : ∀ m : Nat, q < m → m ≠ s.r ∧ m ≠ s.p ∧ m ≠ s.d := fun m hm => ⟨by have := HB9.out.rq; omega, by have := HB9.out.pq; omega, by have := HB9.out.dq; omega⟩
          refine (ring_list s R' x9 HB9.out.ring).mono ?_
          rintro e w10 ⟨v0, v1, v2, v3, rfl, r0, r1, r2, r3, hR, ht⟩
          have HFO := Lib.hid (show Fours w10 x9.heap.size w10.heap.size v0 v1 v2 v3 R' from ⟨r0, r1, r2, r3⟩)
          have HB10 := Lib.hid (HB9.out.turn hR ht)
          have HM10 := Lib.hid (HM9.out.turn ht (hd kb hkb).1 (hd kb hkb).2.1 (hd kb hkb).2.2)
          have HS10 := Lib.hid (HSM.out.turn ht (hd sb hqs).1 (hd sb hqs).2.1 (hd sb hqs).2.2)
          clear hR ht r0 r1 r2 r3 HB9 HM9 HSM hd
          go_wp2_with fail
          refine (ref_around v0 v1 v2 v3 R' _ _ w10 HFO.out (by omega) (Nat.le_refl _)).mono ?_
          rintro e w11 ⟨va, rfl, hrow, hb⟩
          obtain ⟨ao, capa, rfl, hcells⟩ := hrow
          have HB11 := Lib.hid (HB10.out.later hb)
          have HM11 := Lib.hid (HM10.out.later hb)
          have hS11 := HS10.out.later hb
          rw [← ind_nil] at hS11
          have HS11 := Lib.hid hS11
          have hsl : sb < w10.heap.size := HS10.out.lt
          have HCE := Lib.hid (show ∀ k x, R'.all[k]? = some x → ∃ g, ao = some ⟨g, 0, none⟩ ∧ g ≠ sb ∧ w11.cell? ⟨g, k, none⟩ = some (.int .i64 x) from fun k x hx => by
            obtain ⟨g, e, h1, _, h3⟩ := hcells (by have := (List.getElem?_eq_some_iff.1 hx).1; omega)
            exact ⟨g, e, by omega, h3 k x hx⟩)
          clear hb hS11 hcells HB10 HM10 HS10 HFO hsl
          go_wp2_with fail
          go_loopw [14] (fun s14 wr => ∃ k : Nat, k ≤ R'.all.length ∧ s14 = .int .i64 k ∧ CMap wr sb k (ind (R'.all.take k).reverse) (R'.all.take k).reverse ∧ w11.grownBy wr (some sb)) (fun s14 _ => R'.all.length - (intOf s14).toNat)
          case atStart => exact ⟨0, Nat.zero_le _, rfl, HS11.out, World.grownBy.refl _ _⟩
          case round =>
            obtain ⟨k, hk, rfl, hS, hgr⟩ := hrel
            have HS := Lib.hid hS
            have HGR := Lib.hid hgr
            clear hS hgr
            by_cases hlk : k < R'.all.length
            · have hlk' : (k : Int) < (R'.all.length : Int) := by omega
              have hx := List.getElem?_eq_getElem hlk
              have hxm := List.getElem_mem hlk
              have htk : (R'.all.take (k + 1)).reverse = R'.all[k]'hlk :: (R'.all.take k).reverse := by rw [List.take_succ_eq_append_getElem hlk]; simp
              have hxn : R'.all[k]'hlk ∉ (R'.all.take k).reverse := fun h => by
                have h2 : R'.all = R'.all.take k ++ R'.all[k]'hlk :: R'.all.drop (k + 1) := by rw [← List.drop_eq_getElem_cons hlk, List.take_append_drop]
                rw [h2] at hnd
                exact (List.nodup_append.1 hnd).2.2 _ (List.mem_reverse.1 h) _ (List.mem_cons_self ..) rfl
              generalize R'.all[k]'hlk = x at *
              obtain ⟨g, rfl, hgs, cx⟩ := HCE.out k x hx
              replace cx := HGR.out.cell cx (by simpa using hgs)
              have hwf := wf_small (hrg x hxm).1 (hrg x hxm).2
              have hlo := HS.out.look x hwf
              obtain ⟨ip1, ip2, ip3⟩ := ind_put hxn
              rw [ip3] at hlo
              go_wp2_with (at_mapUpdate; refine wp_cput _ rfl _ _ _ rfl sb k _ _ rfl HS.out (by omega) x 1 rfl rfl hwf (by decide) ?_; intro w12 hM8 hg8; rw [ip1, ip2, ← htk] at hM8; have HS12 := Lib.hid hM8; have HG12 := Lib.hid (HGR.out.trans hg8); clear hM8 hg8 hlo)
              exact ⟨⟨k + 1, by omega, by go_num, HS12.out, HG12.out⟩, by simp [intOf]; omega⟩
            · obtain rfl : k = R'.all.length := by omega
              generalize wr = wA at *
              have HBr := Lib.hid (HB11.out.mapped HS11.out HGR.out hqs)
              have HMr := Lib.hid (HM11.out.kept HGR.out (by simpa using hks))
              have e1 : ind (R'.all.take R'.all.length).reverse = ind R'.all := ind_congr fun x => by simp
              have e2 : ∀ x, x ∈ (R'.all.take R'.all.length).reverse → ind R'.all x = 1 := fun x hx => if_pos (by simpa using hx)
              have hS := HS.out
              rw [e1] at hS
              generalize (R'.all.take R'.all.length).reverse = sdom at *
              replace HS := Lib.hid hS
              have HE2 := Lib.hid e2
              clear e1 e2 hS HB11 HM11 HS11 HGR HCE hnd hrg
              have hsn : R'.all.length ≤ 100 := by omega
              have HRL := Lib.hid (show ∀ m, m = R'.all.length → m ≤ i + 1 from fun m e => by omega)
              clear hRl'
              generalize R'.all.length = sn at HS hsn ⊢
              go_wp2_with (at_range; refine wp_crange _ rfl _ rfl kb (2 * i + 1) (ind R'.all) dom' rfl HMr.out ?_; intro w13 hcr hb13 hs13)
              go_frame
              go_loopw [15] (fun _ wq => CRange wq kb wA.heap.size (2 * i + 1) (ind R'.all) dom' ∧ Below wA.heap.size wA wq) (fun _ wq => wq.rangeLeft kb wA.heap.size)
              case atStart => exact ⟨hcr, hb13⟩
              case round =>
                clear hcr hb13 hs13
                obtain ⟨hcr, hbq⟩ := hrel
                go_wp2_with (at_next; refine wp_cnext _ rfl _ rfl kb wA.heap.size (2 * i + 1) (ind R'.all) dom' rfl hcr ?_ ?_)
                · intro _
                  generalize wr = wB at *
                  have HBq := Lib.hid (HBr.out.later hbq)
                  have HMq := Lib.hid (HMr.out.later hbq)
                  have HSq := Lib.hid (HS.out.later hbq)
                  clear hcr hbq HBr HMr HS
                  go_wp2_with (at_range; refine wp_crange _ rfl _ rfl sb sn (ind R'.all) sdom rfl HSq.out ?_; intro w14 hcr hb14 hs14)
                  go_frame
                  go_loopw [17] (fun _ wz => CRange wz sb wB.heap.size sn (ind R'.all) sdom ∧ Below wB.heap.size wB wz) (fun _ wz => wz.rangeLeft sb wB.heap.size)
                  case atStart => exact ⟨hcr, hb14⟩
                  case round =>
                    clear hcr hb14 hs14
                    obtain ⟨hcr, hbz⟩ := hrel
                    go_wp2_with (at_next; refine wp_cnext _ rfl _ rfl sb wB.heap.size sn (ind R'.all) sdom rfl hcr ?_ ?_)
                    · intro _
                      have HBz := Lib.hid (HBq.out.later hbz)
                      have HMz := Lib.hid (HMq.out.later hbz).mono
                      go_wp2_with fail
                      exact ⟨⟨i + 1, R', dom', by omega, HRL.out _ rfl, by go_num, HBz.out, HMz.out⟩, by simp [intOf]; omega⟩
                    · intro x w15 hwx hwc hxd hcr1 hlt1 hg15 hs15 hen
                      have hone := HE2.out x hxd
                      rw [hone] at hen ⊢
                      have hbz' := hbz.grown hg15 hbz.size (fun j hj => by cases hj; exact Nat.le_refl _)
                      have hlo := (HMq.out.later hbz').look x hwx
                      rw [hone] at hlo
                      clear hone
                      go_wp2_with fail
                      go_roundw
                      case rel => exact ⟨hcr1, hbz'⟩
                      case measure => exact hlt1
                · intro x w15 hwx hwc hxd hcr1 hlt1 hg15 hs15 hen
                  have hbz' := hbq.grown hg15 hbq.size (fun j hj => by cases hj; exact Nat.le_refl _)
                  have hlo := (HS.out.later hbz').look x hwx
                  generalize ind R'.all x = z at *
                  have hz : (z != z) = false := by simp
                  go_wp2_with fail
                  go_roundw
                  case rel => exact ⟨hcr1, hbz'⟩
                  case measure => exact hlt1
    · obtain rfl : i = len := by omega
      go_wp2_with fail
      go_ret
      exact ⟨rfl, HBO.out.below⟩

end Go.Proofs.Ytbjlpmjalidfkaa
