import Derived.RangeFuncNested
import Derived.RangeFuncCalls
import Derived.RangeFuncLeaves
import Derived.Shelf.Abstract
import Derived.OwnWalkIn
import Derived.TacticsInMore
import Derived.RangeFuncWrites
import Derived.LoopNIn
import Derived.LoopIn
import Derived.Maps.OwnIn
import Derived.Shelf.RegionOpen
import Derived.Deep.AppendLies
import Derived.Shelf.LaysM
import Derived.Shelf.Strconv.Clone
import Derived.Test.YtdjcdecbmeickaaMg10
namespace Go.Proofs.Ytdjcdecbmeickaa
set_option maxHeartbeats 64000000
set_option maxRecDepth 100000
open Go.RowKit Go.Lib
theorem every_bds {M : Nat → Prop} {z l : Nat} {J : Option Nat → List Nm → World → Prop} (T : Teller M z l J) (n : Nat) (hP : VarC M z l J n) (b ns : Nat) (dom : List Nm) (L : List Bnd) (hs : ∀ y, y ∈ L → SizeOf.sizeOf y.2.2 ≤ n) (hw : ∀ y, y ∈ L → wvB y) (hn : ns + sumN nB L ≤ 100000) (a : Option Addr) (c : Nat) (xs : List Value) (r : Option Nat) (pre : List Nm) (w : World) (hp : pre.length + sumN nB L ≤ 100000) (hA : At z J b ns dom r pre w) (hr : RowAt w (Mine M z (some b) r) 36 10 (.slice a L.length c) L.length xs) (ht : BndsAt w M L xs) :
    Calls Try.prog 67 #[.slice a L.length c, .func (.func 68) #[.agg #[.map (some b), .func (.yield l) #[] #[]]] #[]] w (VarSaid M z J b (ns + sumN nB L) dom r (pre ++ outBs dom L) w) := by
  rw [outBs_flat]
  exact every_bd T 68 (enters_of Try.func68 (by kernel_rfl) rfl) b ns dom (fun y => outE (dom ++ y.2.1) y.2.2) nB L (fun y _ => by unfold nB; have := outE_len y.2.2 (dom ++ y.2.1); omega) a c xs r pre w hA hn hp hr ht
    fun j hj aq cq k nm f u ap np cp ak nk ck ab nb cb aa na ca r' pre' ns' W hA h1 h2 hQ hE => vbody_any T n hP b ns' dom L[j] (hs _ (List.getElem_mem hj)) (hw _ (List.getElem_mem hj)).2 h1 aq cq k nm f u ap np cp ak nk ck ab nb cb aa na ca r' pre' W h2 hA hQ hE
theorem every_als {M : Nat → Prop} {z l : Nat} {J : Option Nat → List Nm → World → Prop} (T : Teller M z l J) (n : Nat) (hP : VarC M z l J n) (b ns : Nat) (dom : List Nm) (L : List Alt) (hs : ∀ y, y ∈ L → SizeOf.sizeOf y.2.2.2.2.2 ≤ n) (hw : ∀ y, y ∈ L → wvA y) (hn : ns + sumN nA L ≤ 100000) (a : Option Addr) (c : Nat) (xs : List Value) (r : Option Nat) (pre : List Nm) (w : World) (hp : pre.length + sumN nA L ≤ 100000) (hA : At z J b ns dom r pre w) (hr : RowAt w (Mine M z (some b) r) 51 13 (.slice a L.length c) L.length xs) (ht : AltsAt w M L xs) :
    Calls Try.prog 61 #[.slice a L.length c, .func (.func 62) #[.agg #[.map (some b), .func (.yield l) #[] #[]]] #[]] w (VarSaid M z J b (ns + sumN nA L) dom r (pre ++ outAs dom L) w) := by
  rw [outAs_flat]
  exact every_al T 62 (enters_of Try.func62 (by kernel_rfl) rfl) b ns dom (outA dom) nA L (fun y _ => outA_len dom y) a c xs r pre w hA hn hp hr ht
    fun j hj aq cq k nm f u ap np cp ak nk ck ab nb cb aa na ca r' pre' ns' W hA h1 h2 hQ hE => valt_any T n hP b ns' dom L[j] (hs _ (List.getElem_mem hj)) (hw _ (List.getElem_mem hj)) h1 aq cq k nm f u ap np cp ak nk ck ab nb cb aa na ca r' pre' W h2 hA hQ hE
theorem vlet_any {M : Nat → Prop} {z l : Nat} {J : Option Nat → List Nm → World → Prop} (T : Teller M z l J) (n : Nat) (hP : VarC M z l J n) (b ns : Nat) (dom : List Nm) (k0 : Int) (nm0 : Nm) (f0 : Bool) (u0 : Int) (ps : List Nm) (ks : List Ex) (bl : List Bnd) (al : List Alt) (ap0 : Option Addr) (cp0 : Nat) (ak0 : Option Addr) (ck0 : Nat) (ab0 : Option Addr) (cb0 : Nat) (aa0 : Option Addr) (ca0 : Nat) (hN : NodeV n ns k0 nm0 f0 u0 ps ks bl al) (xk xb : List Value) (r : Option Nat) (pre : List Nm) (w : World) (hn : ns + (bl.length + sumN nB bl + sumN wtE ks) ≤ 100000) (hp : pre.length + (bl.length + sumN nB bl + sumN wtE ks) ≤ 100000) (hA : At z J b ns dom r pre w) (hk : RowAt w M 34 8 (.slice ak0 ks.length ck0) ks.length xk) (hb : RowAt w M 36 10 (.slice ab0 bl.length cb0) bl.length xb) (tk : ExsAt w M ks xk) (tb : BndsAt w M bl xb) :
    Calls Try.prog 60 #[.agg #[.map (some b), .func (.yield l) #[] #[]], .agg #[.int .i64 k0, .string (tx nm0), .bool f0, .int .u64 u0, .slice ap0 ps.length cp0, .slice ak0 ks.length ck0, .slice ab0 bl.length cb0, .slice aa0 al.length ca0]] w (VarSaid M z J b (ns + (bl.length + sumN nB bl + sumN wtE ks)) dom r (pre ++ (outBs (dom ++ bNames bl) bl ++ outEs (dom ++ bNames bl) ks)) w) := by
  have hx1 := (Below.refl w.heap.size w).alloc Nr (.cells #[.map (some b), .func (.yield l) #[] #[]] 72)
  have hx := hx1.alloc hx1.size (.cells #[.int .i64 k0, .string (tx nm0), .bool f0, .int .u64 u0, .slice ap0 ps.length cp0, .slice ak0 ks.length ck0, .slice ab0 bl.length cb0, .slice aa0 al.length ca0] 34)
  have hB1 := (BoxW.alloc w #[.map (some b), .func (.yield l) #[] #[]] 72).below (Br.alloc Nr (.cells #[.int .i64 k0, .string (tx nm0), .bool f0, .int .u64 u0, .slice ap0 ps.length cp0, .slice ak0 ks.length ck0, .slice ab0 bl.length cb0, .slice aa0 al.length ca0] 34))
  have hB2 := BoxW.alloc (w.alloc (.cells #[.map (some b), .func (.yield l) #[] #[]] 72)) #[.int .i64 k0, .string (tx nm0), .bool f0, .int .u64 u0, .slice ap0 ps.length cp0, .slice ak0 ks.length ck0, .slice ab0 bl.length cb0, .slice aa0 al.length ca0] 34
  rw [show (w.alloc (.cells #[.map (some b), .func (.yield l) #[] #[]] 72)).heap.size = w.heap.size + 1 by simp] at hB2
  have hnl := bNames_len bl
  have hzW : ((w.alloc (.cells #[.map (some b), .func (.yield l) #[] #[]] 72)).alloc (.cells #[.int .i64 k0, .string (tx nm0), .bool f0, .int .u64 u0, .slice ap0 ps.length cp0, .slice ak0 ks.length ck0, .slice ab0 bl.length cb0, .slice aa0 al.length ca0] 34)).heap.size = w.heap.size + 1 + 1 := by simp
  obtain ⟨i0, hi0, hz0, hzs, hzb⟩ := info_parts Try.info_text
  have HX := Hd (Ai hx (Ai hB1 hB2))
  have HO := Hd (Ai hA (Ai hk (Ai hb (Ai tk tb))))
  clear hx hx1 hB1 hB2 hA hk hb tk tb
  go_enter_defers Try.func60, Try.ntmps60
  go_upto_region 1 with fail
  generalize ((w.alloc (.cells #[.map (some b), .func (.yield l) #[] #[]] 72)).alloc (.cells #[.int .i64 k0, .string (tx nm0), .bool f0, .int .u64 u0, .slice ap0 ps.length cp0, .slice ak0 ks.length ck0, .slice ab0 bl.length cb0, .slice aa0 al.length ca0] 34)) = W at *
  have e5 : W.cell? ⟨w.heap.size + 1, 6, none⟩ = some (.slice ab0 bl.length cb0) := HX.out.2.2.1 6 _ rfl
  have HW := Hd (show W.cell? ⟨w.heap.size, 0, none⟩ = some (.map (some b)) ∧ W.cell? ⟨w.heap.size, 1, none⟩ = some (.func (.yield l) #[] #[]) ∧ W.cell? ⟨w.heap.size + 1, 5, none⟩ = some (.slice ak0 ks.length ck0) ∧ W.cell? ⟨w.heap.size + 1, 6, none⟩ = some (.slice ab0 bl.length cb0) from ⟨HX.out.2.1.1 0 _ rfl, HX.out.2.1.1 1 _ rfl, HX.out.2.2.1 5 _ rfl, e5⟩)
  go_wp2_with fail
  clear e5
  go_loopw [5, 11] (fun s2 s3 wr => ∃ (j : Nat) (vv : Value), j ≤ bl.length ∧ vv = s2 ∧ s3 = .int .i64 j ∧ wr.ownsRow W.heap.size 9 1 vv j (namesV (bNames (bl.take j))) ∧ Below W.heap.size W wr) (fun _ s3 _ => bl.length - (RowKit.intOf s3).toNat)
  case atStart => exact ⟨0, _, Nat.zero_le _, rfl, rfl, World.ownsRow_nil _ _ _ _, Below.refl _ _⟩
  case round =>
    obtain ⟨j, vv, hj, rfl, rfl, hown, hbr⟩ := hrel
    obtain ⟨av, cc, rfl, hlow⟩ := own_shape hown
    have HL := Hd (Ai hown (Ai hbr hlow))
    clear hown hbr hlow
    by_cases gj : j < bl.length
    · have gj' : (j : Int) < (bl.length : Int) := by omega
      have hBW : Below w.heap.size w wr := onB' HX.out.1 HL.out.2.1
      obtain ⟨aq, cq, k, nm, f, u, ap, np, cp, ak, nk, ck, ab, nb, cb, aa, na, ca, -, -, hc⟩ := HO.out.2.2.2.2.cells j gj
      obtain ⟨g1, o1, ea1, k1, m1', -, ht1⟩ := HO.out.2.2.1.at (by omega)
      subst ea1
      have HP := Hd (fun i v h => later' hBW (ht1 _ _ (hc i v h)))
      have HT := Hd (show namesV (bNames (bl.take (j + 1))) = namesV (bNames (bl.take j)) ++ [.string (tx bl[j].1)] by rw [List.take_succ_eq_append_getElem gj]; simp only [namesV, bNames, List.map_append, List.map_cons, List.map_nil])
      clear ht1 hc hBW
      generalize bl[j].1 = nb0 at *
      generalize bl[j].2.1.length = nq at *
      have p0 : wr.cell? ⟨g1, o1 + j * 10, none⟩ = some (.string (tx nb0)) := HP.out 0 _ rfl
      have p1 : wr.cell? ⟨g1, o1 + j * 10 + 1, none⟩ = some (.slice aq nq cq) := by rw [Nat.add_assoc]; exact HP.out 1 _ rfl
      have p2 : wr.cell? ⟨g1, o1 + j * 10 + 2, none⟩ = some (.int .i64 k) := by rw [Nat.add_assoc]; exact HP.out 2 _ rfl
      have p3 : wr.cell? ⟨g1, o1 + j * 10 + 3, none⟩ = some (.string (tx nm)) := by rw [Nat.add_assoc]; exact HP.out 3 _ rfl
      have p4 : wr.cell? ⟨g1, o1 + j * 10 + 4, none⟩ = some (.bool f) := by rw [Nat.add_assoc]; exact HP.out 4 _ rfl
      have p5 : wr.cell? ⟨g1, o1 + j * 10 + 5, none⟩ = some (.int .u64 u) := by rw [Nat.add_assoc]; exact HP.out 5 _ rfl
      have p6 : wr.cell? ⟨g1, o1 + j * 10 + 6, none⟩ = some (.slice ap np cp) := by rw [Nat.add_assoc]; exact HP.out 6 _ rfl
      have p7 : wr.cell? ⟨g1, o1 + j * 10 + 7, none⟩ = some (.slice ak nk ck) := by rw [Nat.add_assoc]; exact HP.out 7 _ rfl
      have p8 : wr.cell? ⟨g1, o1 + j * 10 + 8, none⟩ = some (.slice ab nb cb) := by rw [Nat.add_assoc]; exact HP.out 8 _ rfl
      have p9 : wr.cell? ⟨g1, o1 + j * 10 + 9, none⟩ = some (.slice aa na ca) := by rw [Nat.add_assoc]; exact HP.out 9 _ rfl
      have hwz : W.heap.size ≤ wr.heap.size := HL.out.2.1.size
      have f5 := later' HL.out.2.1 HW.out.2.2.2
      have ej : IntKind.i64.wrap ((j : Int) + 1) = (j : Int) + 1 := by rw [IntKind.wrap_i64]; omega
      have b0 : (0 : Int) ≤ (j : Int) := by omega
      have one1 : ∀ u ∈ [Value.string (tx nb0)], u.oneCell' = true := by intro u hu; simp at hu; rw [hu]; rfl
      have m9 : j + 1 ≤ maxLen := by unfold maxLen; omega
      have m8 : (j + 1) * 16 ≤ 140737488355328 := by omega
      have hx := (Below.refl wr.heap.size wr).alloc Nr (.cells #[.string (tx nb0), .slice aq nq cq, .int .i64 k, .string (tx nm), .bool f, .int .u64 u, .slice ap np cp, .slice ak nk ck, .slice ab nb cb, .slice aa na ca] 36)
      have H5 := Hd (hx.alloc hx.size (.cells #[.string (tx nb0)] 9))
      have hz5 := H5.out.size
      have HO5 := Hd (own_below HL.out.1 H5.out)
      clear hx
      go_wp2_with (at_builtin; refine wpList_append_lies _ rfl _ _ 22 rfl W.heap.size 9 i0 (.string ⟨#[]⟩) 1 16 Try.underlying22 hi0 hz0 hzs hzb rfl (by decide) (.slice av j cc) j (namesV (bNames (bl.take j))) rfl HO5.out ⟨wr.heap.size + 1, 0, none⟩ 1 1 [.string (tx nb0)] rfl rfl (World.news_of_block (by rw [show wr.heap.size + 1 = (wr.alloc (.cells #[.string (tx nb0), .slice aq nq cq, .int .i64 k, .string (tx nm), .bool f, .int .u64 u, .slice ap np cp, .slice ak nk ck, .slice ab nb cb, .slice aa na ca] 36)).heap.size by simp]; exact heap_alloc_new _ _)) one1 (by decide) m9 m8 (by omega) _ rfl ?_; intro g9 cap9 w9 o1 o2 o3 o4)
      refine ⟨⟨j + 1, _, by omega, rfl, by go_num, by rw [HT.out]; exact o1, ?_⟩, by simp [RowKit.intOf]; omega⟩
      have hx := onB' HL.out.2.1 H5.out
      exact ⟨o2.os.trans hx.os, o2.tape.trans hx.tape, o2.output.trans hx.output, Nt hx.size o2.size, fun k hk => (o2.block k (by have := hx.size; omega) (fun e => by have := HL.out.2.2 k e.symm; omega)).trans (hx.block k hk)⟩
    · obtain rfl : j = bl.length := by omega
      have HQ := Hd (show wr.ownsRow W.heap.size 9 1 (.slice av bl.length cc) bl.length (namesV (bNames bl)) by have h := HL.out.1; rw [List.take_length] at h; exact h)
      go_upto_region 7 with fail
      have hli := T.lies r pre w HO.out.1.j
      have hb0 := onB' HX.out.1 HL.out.2.1
      have d0 := later' HL.out.2.1 HW.out.1
      have d1 := later' HL.out.2.1 HW.out.2.1
      have HBd := Hd (fun (V : World) (hb : Below w.heap.size w V) (hv : V.ownsRow W.heap.size 9 1 (.slice av bl.length cc) bl.length (namesV (bNames bl))) => (show Calls Try.prog 41 #[.agg #[.map (some b), .func (.yield l) #[] #[]], .slice av bl.length cc] V (BindSaid b ns dom (bNames bl) V) from by
        have h := bind_any b ns dom (bNames bl) (fun x hx => by
          obtain ⟨y, hy, rfl⟩ := List.mem_map.1 hx
          exact (hN.wb y hy).1.2) (by omega) (.func (.yield l) #[] #[]) av cc (fun g => W.heap.size ≤ g ∧ (Value.slice av bl.length cc).ownBlock = some g) (fun g hg e => by have := hg.1; have := HO.out.1.set.lt; omega) V (HO.out.1.below T hb).set (by rw [hnl]; exact RowAt.at_own hv)
        rw [hnl] at h
        exact h))
      have hlt := HO.out.1.set.lt
      have HI := Hd hli
      have HB0 := Hd hb0
      have hwr : W.heap.size ≤ wr.heap.size := HL.out.2.1.size
      have hlen : (bNames bl).length = bl.length := hnl
      clear hb0 hli
      go_region_held3 (fun W' => W'.cell? ⟨w.heap.size, 0, none⟩ = some (.map (some b)) ∧ W'.cell? ⟨w.heap.size, 1, none⟩ = some (.func (.yield l) #[] #[])) (first | exact ⟨x0, x1⟩ | exact ⟨d0, d1⟩ | go_keep) (
        (go_at_call 41
         refine (HBd.out _ ?hb ?hv).mono ?_
         case hb => first | exact HB0.out.drew | exact HB0.out
         case hv => exact HQ.out
         rintro e w2 ⟨F, v, rfl, hF1, hF2, hF3, hF4, hF5, hF6⟩
         have x0 : w2.cell? ⟨w.heap.size, 0, none⟩ = some (.map (some b)) := hF6.cell (show wr.drew.cell? _ = _ from d0) (by simp; omega)
         have x1 : w2.cell? ⟨w.heap.size, 1, none⟩ = some (.func (.yield l) #[] #[]) := hF6.cell (show wr.drew.cell? _ = _ from d1) (by simp; omega)
         have x4 : w2.cell? ⟨w.heap.size + 1, 5, none⟩ = some (.slice ak0 ks.length ck0) := hF6.cell (show wr.drew.cell? _ = _ from later' HL.out.2.1 HW.out.2.2.1) (by simp; omega)
         have x5 : w2.cell? ⟨w.heap.size + 1, 6, none⟩ = some (.slice ab0 bl.length cb0) := hF6.cell (show wr.drew.cell? _ = _ from later' HL.out.2.1 HW.out.2.2.2) (by simp; omega)))
      obtain ⟨av, cv, rfl, hlow⟩ := own_shape hF4
      have S2 : Step M z (some b) r w r w2 := (Step.below HB0.out.drew).trans (Step.grown hF6)
      have hA2 : At z J b (ns + (bNames bl).length) (dom ++ bNames bl) r pre w2 := HO.out.1.said (T.grown (T.below HO.out.1.j HB0.out.drew) HO.out.1.zb HO.out.1.ne hF6) S2 (hF5.eq (dedup_set hF1))
      have hrow : RowAt w2 (Mine M z (some b) r) 9 1 (.slice av F.length cv) F.length (namesV F) := (RowAt.at_own hF4).move fun g hk lt => ⟨⟨Or.inr (by have := hk.1; have : wr.drew.heap.size = wr.heap.size := rfl; have := HI.out.1; omega), fun e => by have := Oi e; have := hk.1; have : wr.drew.heap.size = wr.heap.size := rfl; omega, fun e => by have := HI.out.2 g e.symm; have := hk.1; have : wr.drew.heap.size = wr.heap.size := rfl; omega⟩, rfl⟩
      have HE := Hd (every_bds T n hP b (ns + (bNames bl).length) (dom ++ bNames bl) bl hN.sb hN.wb (by omega) ab0 cb0 xb r pre w2 (by omega) hA2 ((T.row HO.out.1.j HO.out.1.zb HO.out.2.2.1).step S2) (T.bnds HO.out.1.j HO.out.1.zb S2 HO.out.2.2.2.2))
      have HK := Hd (Ai ((T.row HO.out.1.j HO.out.1.zb HO.out.2.1).step S2) (T.exs HO.out.1.j HO.out.1.zb S2 HO.out.2.2.2.1))
      have H2 := Hd (Ai S2 (Ai hrow (Ai hF1 (Ai hF3 hA2))))
      have hm0 : Mine M z (some b) r w.heap.size := mine_new T HO.out.1 Nr
      have hm1 : Mine M z (some b) r (w.heap.size + 1) := mine_new T HO.out.1 (by omega)
      have HM := Hd (Ai hm0 hm1)
      have hz2 : wr.drew.heap.size ≤ w2.heap.size := hF6.size
      have hz3 : wr.drew.heap.size = wr.heap.size := rfl
      have HZ := Hd (show w.heap.size + 1 < w2.heap.size by omega)
      clear S2 hrow hF1 hF3 hA2 hF4 hF5 hF6 hlow HBd hm0 hm1 hz2 hz3
      have hmf := func_made
      go_wp2_with fail
      refine HE.out.mono ?_
      rintro e w3 ⟨rfl, r3, j3, s3, n3⟩
      have hA3 := H2.out.2.2.2.2.said j3 s3 n3
      have hhp := outBs_len bl (dom ++ bNames bl)
      have hbw := wtBs_sum bl
      rw [hbw, sumN_nB2] at hhp
      have y0 : w3.cell? ⟨w.heap.size, 0, none⟩ = some (.map (some b)) := (World.cell?_of_block (HM.out.1.kept s3 (by have := HZ.out; omega)).2).trans x0
      have y1 : w3.cell? ⟨w.heap.size, 1, none⟩ = some (.func (.yield l) #[] #[]) := (World.cell?_of_block (HM.out.1.kept s3 (by have := HZ.out; omega)).2).trans x1
      have y4 : w3.cell? ⟨w.heap.size + 1, 5, none⟩ = some (.slice ak0 ks.length ck0) := (World.cell?_of_block (HM.out.2.kept s3 HZ.out).2).trans x4
      have HE2 := Hd (every_exs T n hP b (ns + (bNames bl).length + sumN nB bl) (dom ++ bNames bl) ks hN.sk hN.wk (by omega) ak0 ck0 xk r3 (pre ++ outBs (dom ++ bNames bl) bl) w3 (by rw [List.length_append]; omega) hA3 (HK.out.1.step s3) (T.exs H2.out.2.2.2.2.j HO.out.1.zb s3 HK.out.2))
      have H3 := Hd (Ai s3 hA3)
      clear j3 s3 n3 hA3 HE hhp hbw x0 x1 x4 x5
      go_wp2_with fail
      refine HE2.out.mono ?_
      rintro e w4 ⟨rfl, r4, j4, s4, n4⟩
      have hA4 := H3.out.2.said j4 s4 n4
      have HD := Hd (unbind_d b (ns + (bNames bl).length + sumN nB bl + sumN wtE ks) (dom ++ bNames bl) F (fun x hx => by
        obtain ⟨y, hy, rfl⟩ := List.mem_map.1 (H2.out.2.2.2.1 x hx).1
        exact (hN.wb y hy).1.2) (by omega) (.func (.yield l) #[] #[]) .returning av cv (Mine M z (some b) r4) (fun g hg e => hg.2.1 (by rw [e])) w4 n4 ((H2.out.2.1.step H3.out.1).step s4))
      have H4 := Hd (Ai s4 hA4)
      clear j4 s4 n4 hA4 HE2
      go_wp2_with fail
      refine leaves_cons (f := 40) (args := #[.agg #[.map (some b), .func (.yield l) #[] #[]], .slice av F.length cv]) (by simp) (by simp [go_sem]) ?_
      refine HD.out.mono ?_
      rintro e u' w5 ⟨rfl, ⟨v, rfl⟩, hs5, hg5⟩
      have hfin := hs5.eq (wo_back H2.out.2.2.1 H2.out.2.2.2.1)
      rw [hlen, show ns + bl.length + sumN nB bl + sumN wtE ks = ns + (bl.length + sumN nB bl + sumN wtE ks) by omega] at hfin
      have hj := T.grown H4.out.2.j HO.out.1.zb H4.out.2.ne hg5
      rw [List.append_assoc] at hj
      exact ⟨_, results_tmp rfl _ _ _, rfl, r4, hj, ((H2.out.1.trans H3.out.1).trans H4.out.1).trans (Step.grown hg5), hfin⟩
attribute [local go_sem] Oper.semAt_some
theorem varc_step {M : Nat → Prop} {z l : Nat} {J : Option Nat → List Nm → World → Prop} (T : Teller M z l J) (n : Nat) (hP : VarC M z l J n) : VarC M z l J (n + 1) := by
  intro x r pre w b ns dom k nm f u ap np cp ak nk ck ab nb cb aa na ca hz hw hn hp0 hA ht
  obtain ⟨ps, ks, bl, al, xk, xb, xa, rfl, rfl, rfl, rfl, rfl, hp, hk, hb, ha, tk, tb, ta⟩ := ht.opened
  have hN := NodeV.of hz hw hn
  have hwt := hN.wt
  have hwe : wtE (.mk k nm f u ps ks bl al) = (if k = 1 then 1 else 0) + ps.length + sumN wtE ks + (bl.length + sumN nB bl) + sumN nA al := by rw [wtE_mk, sumN_nB2]
  rw [hwe] at hp0 ⊢
  clear hz hw hn ht hwe
  rw [outE_mk]
  by_cases g1 : k = 1
  · rw [if_pos g1, if_pos g1, g1]
    have hnn := (hN.wn (Or.inl g1)).2
    rw [if_pos g1] at hp0 hwt
    rw [g1] at hN
    clear g1
    have hx1 := (Below.refl w.heap.size w).alloc Nr (.cells #[.map (some b), .func (.yield l) #[] #[]] 72)
    have hx := hx1.alloc hx1.size (.cells #[.int .i64 1, .string (tx nm), .bool f, .int .u64 u, .slice ap ps.length cp, .slice ak ks.length ck, .slice ab bl.length cb, .slice aa al.length ca] 34)
    have hB1 := (BoxW.alloc w #[.map (some b), .func (.yield l) #[] #[]] 72).below (Br.alloc Nr (.cells #[.int .i64 1, .string (tx nm), .bool f, .int .u64 u, .slice ap ps.length cp, .slice ak ks.length ck, .slice ab bl.length cb, .slice aa al.length ca] 34))
    have hB2 := BoxW.alloc (w.alloc (.cells #[.map (some b), .func (.yield l) #[] #[]] 72)) #[.int .i64 1, .string (tx nm), .bool f, .int .u64 u, .slice ap ps.length cp, .slice ak ks.length ck, .slice ab bl.length cb, .slice aa al.length ca] 34
    rw [show (w.alloc (.cells #[.map (some b), .func (.yield l) #[] #[]] 72)).heap.size = w.heap.size + 1 by simp] at hB2
    have hzW : ((w.alloc (.cells #[.map (some b), .func (.yield l) #[] #[]] 72)).alloc (.cells #[.int .i64 1, .string (tx nm), .bool f, .int .u64 u, .slice ap ps.length cp, .slice ak ks.length ck, .slice ab bl.length cb, .slice aa al.length ca] 34)).heap.size = w.heap.size + 1 + 1 := by simp
    have HX := Hd (Ai hx (Ai hB1 (Ai hB2 (hA.below T hx))))
    clear hx hx1 hB1 hB2 hA hp hk hb ha tk tb ta
    by_cases gm : nm ∈ dom
    · rw [if_pos gm, List.append_nil]
      go_enter Try.func43, Try.ntmps43
      go_upto_region 1 with fail
      generalize ((w.alloc (.cells #[.map (some b), .func (.yield l) #[] #[]] 72)).alloc (.cells #[.int .i64 1, .string (tx nm), .bool f, .int .u64 u, .slice ap ps.length cp, .slice ak ks.length ck, .slice ab bl.length cb, .slice aa al.length ca] 34)) = W at *
      have d0 : W.cell? ⟨w.heap.size, 0, none⟩ = some (.map (some b)) := HX.out.2.1.1 0 _ rfl
      have c0 : W.cell? ⟨w.heap.size + 1, 0, none⟩ = some (.int .i64 1) := HX.out.2.2.1.1 0 _ rfl
      have c1 : W.cell? ⟨w.heap.size + 1, 1, none⟩ = some (.string (tx nm)) := HX.out.2.2.1.1 1 _ rfl
      have hlk := HX.out.2.2.2.set.lookm nm hnn
      rw [decide_eq_true gm] at hlk
      go_wp2_with fail
      go_ret
      have H : VarSaid M z J b ns dom r pre w (.returned (.bool true)) W := ⟨rfl, r, HX.out.2.2.2.j, Step.below HX.out.1, HX.out.2.2.2.set⟩
      exact varSaid_more H (by omega)
    · rw [if_neg gm]
      refine (callsIn_wide (n := 3)).1 ?_
      refine callsIn_of_wp Try.func43 rfl trivial ?_ rfl
      simp only [Try.ntmps43, List.size_toArray, List.length_cons, List.length_nil, Nat.reduceAdd, Nat.reduceSub, Array.replicate_succ, Array.replicate_zero, List.push_toArray, List.append_toArray, List.nil_append, List.cons_append]
      have hlk := HX.out.2.2.2.set.lookm nm hnn
      rw [decide_eq_false gm] at hlk
      obtain ⟨fn, tmps, assign, body, hy, hR⟩ := T.tell r pre nm _ 2 HX.out.2.2.2.j hnn (by omega)
      gi_wp2_with (refine hR.mono ?_; clear hR; rintro e W2 ⟨rfl, r', j', s'⟩)
      go_ret
      have hs := HX.out.2.2.2.set
      have hn' : NSet W2 b ns dom := hs.same (s'.block b hs.lt (Or.inr HX.out.2.2.2.zb) (fun e => by cases e) HX.out.2.2.2.ne)
      have H : VarSaid M z J b ns dom r (pre ++ [nm]) w (.returned (.bool true)) W2 := ⟨rfl, r', j', (Step.below HX.out.1).trans s'.any, hn'⟩
      exact varSaid_more H (by omega)
  rw [if_neg g1]
  rw [if_neg g1] at hp0 hwt
  by_cases g6 : k = 6
  · rw [if_pos g6, g6]
    rw [g6] at hN
    have hx1 := (Below.refl w.heap.size w).alloc Nr (.cells #[.map (some b), .func (.yield l) #[] #[]] 72)
    have hx := hx1.alloc hx1.size (.cells #[.int .i64 6, .string (tx nm), .bool f, .int .u64 u, .slice ap ps.length cp, .slice ak ks.length ck, .slice ab bl.length cb, .slice aa al.length ca] 34)
    have HO := Hd (vlet_any T n hP b ns dom 6 nm f u ps ks bl al ap cp ak ck ab cb aa ca hN xk xb r pre ((w.alloc (.cells #[.map (some b), .func (.yield l) #[] #[]] 72)).alloc (.cells #[.int .i64 6, .string (tx nm), .bool f, .int .u64 u, .slice ap ps.length cp, .slice ak ks.length ck, .slice ab bl.length cb, .slice aa al.length ca] 34)) (by omega) (by omega) (hA.below T hx) (T.rows hA.j hA.zb (Step.below hx) hk) (T.rows hA.j hA.zb (Step.below hx) hb) (T.exs hA.j hA.zb (Step.below hx) tk) (T.bnds hA.j hA.zb (Step.below hx) tb))
    have HX := Hd hx
    have HN := Hd (show ns + (bl.length + sumN nB bl + sumN wtE ks) ≤ ns + (ps.length + sumN wtE ks + (bl.length + sumN nB bl) + sumN nA al) by omega)
    have hmf := func_made
    clear g1 g6 hx hx1 hA hp hk hb ha tk tb ta
    go_enter Try.func43, Try.ntmps43
    go_wp2_with fail
    refine HO.out.mono ?_
    rintro e w3 hh
    have H := Hd (varSaid_more (hh.from HX.out) HN.out)
    obtain ⟨rfl, -⟩ := hh
    clear HO
    go_wp2_with fail
    go_ret
    exact H.out
  rw [if_neg g6]
  by_cases g7 : k = 7
  · rw [if_pos g7, g7]
    rw [g7] at hN
    have hx1 := (Below.refl w.heap.size w).alloc Nr (.cells #[.map (some b), .func (.yield l) #[] #[]] 72)
    have hx := hx1.alloc hx1.size (.cells #[.int .i64 7, .string (tx nm), .bool f, .int .u64 u, .slice ap ps.length cp, .slice ak ks.length ck, .slice ab bl.length cb, .slice aa al.length ca] 34)
    have hB1 := (BoxW.alloc w #[.map (some b), .func (.yield l) #[] #[]] 72).below (Br.alloc Nr (.cells #[.int .i64 7, .string (tx nm), .bool f, .int .u64 u, .slice ap ps.length cp, .slice ak ks.length ck, .slice ab bl.length cb, .slice aa al.length ca] 34))
    have hB2 := BoxW.alloc (w.alloc (.cells #[.map (some b), .func (.yield l) #[] #[]] 72)) #[.int .i64 7, .string (tx nm), .bool f, .int .u64 u, .slice ap ps.length cp, .slice ak ks.length ck, .slice ab bl.length cb, .slice aa al.length ca] 34
    rw [show (w.alloc (.cells #[.map (some b), .func (.yield l) #[] #[]] 72)).heap.size = w.heap.size + 1 by simp] at hB2
    have hzW : ((w.alloc (.cells #[.map (some b), .func (.yield l) #[] #[]] 72)).alloc (.cells #[.int .i64 7, .string (tx nm), .bool f, .int .u64 u, .slice ap ps.length cp, .slice ak ks.length ck, .slice ab bl.length cb, .slice aa al.length ca] 34)).heap.size = w.heap.size + 1 + 1 := by simp
    have HO := Hd (every_exs T n hP b ns dom ks hN.sk hN.wk (by omega) ak ck xk r pre ((w.alloc (.cells #[.map (some b), .func (.yield l) #[] #[]] 72)).alloc (.cells #[.int .i64 7, .string (tx nm), .bool f, .int .u64 u, .slice ap ps.length cp, .slice ak ks.length ck, .slice ab bl.length cb, .slice aa al.length ca] 34)) (by omega) (hA.below T hx) ((T.row hA.j hA.zb hk).step (Step.below hx)) (T.exs hA.j hA.zb (Step.below hx) tk))
    have HX := Hd (Ai hx (Ai hB1 hB2))
    have HQ := Hd (Ai hA (Ai ((T.row hA.j hA.zb ha).step (Step.below hx)) (T.alts hA.j hA.zb (Step.below hx) ta)))
    have hmf := func_made
    clear g1 g6 g7 hx hx1 hB1 hB2 hA hp hk hb ha tk tb ta
    go_enter Try.func43, Try.ntmps43
    go_wp2_with fail
    refine HO.out.mono ?_
    rintro e w3 ⟨rfl, r3, j3, s3, n3⟩
    have hm0 : Mine M z (some b) r w.heap.size := mine_new T HQ.out.1 Nr
    have hm1 : Mine M z (some b) r (w.heap.size + 1) := mine_new T HQ.out.1 (by omega)
    have y0 : w3.cell? ⟨w.heap.size, 0, none⟩ = some (.map (some b)) := (World.cell?_of_block (hm0.kept s3 (by omega)).2).trans (HX.out.2.1.1 0 _ rfl)
    have y1 : w3.cell? ⟨w.heap.size, 1, none⟩ = some (.func (.yield l) #[] #[]) := (World.cell?_of_block (hm0.kept s3 (by omega)).2).trans (HX.out.2.1.1 1 _ rfl)
    have y7 : w3.cell? ⟨w.heap.size + 1, 7, none⟩ = some (.slice aa al.length ca) := (World.cell?_of_block (hm1.kept s3 (by omega)).2).trans (HX.out.2.2.1 7 _ rfl)
    have hA3 : At z J b (ns + sumN wtE ks) dom r3 (pre ++ outEs dom ks) w3 := (HQ.out.1.below T HX.out.1).said j3 s3 n3
    have hlk := outEs_len ks dom
    rw [wtEs_sum] at hlk
    have HO2 := Hd (every_als T n hP b (ns + sumN wtE ks) dom al hN.sa hN.wa (by omega) aa ca xa r3 (pre ++ outEs dom ks) w3 (by rw [List.length_append]; omega) hA3 (HQ.out.2.1.step s3) (T.alts (T.below HQ.out.1.j HX.out.1) HQ.out.1.zb s3 HQ.out.2.2))
    have H3 := Hd (Ai s3 hA3)
    clear HO j3 s3 n3 hA3 hm0 hm1 hlk
    go_wp2_with fail
    refine HO2.out.mono ?_
    rintro e w4 ⟨rfl, r4, j4, s4, n4⟩
    have H4 := Hd (Ai j4 (Ai s4 n4))
    clear HO2 j4 s4 n4
    go_wp2_with fail
    go_ret
    have hj := H4.out.1
    rw [List.append_assoc] at hj
    have H : VarSaid M z J b (ns + sumN wtE ks + sumN nA al) dom r (pre ++ (outEs dom ks ++ outAs dom al)) w (.returned (.bool true)) w4 := ⟨rfl, r4, hj, ((Step.below HX.out.1).trans H3.out.1).trans H4.out.2.1, H4.out.2.2⟩
    exact varSaid_more H (by omega)
  rw [if_neg g7]
  by_cases g8 : k = 8
  · rw [if_pos g8, g8]
    rw [g8] at hN
    have hx1 := (Below.refl w.heap.size w).alloc Nr (.cells #[.map (some b), .func (.yield l) #[] #[]] 72)
    have hx := hx1.alloc hx1.size (.cells #[.int .i64 8, .string (tx nm), .bool f, .int .u64 u, .slice ap ps.length cp, .slice ak ks.length ck, .slice ab bl.length cb, .slice aa al.length ca] 34)
    have HO := Hd (vunder_any T n hP b ns dom ps ks (nmv_len hN.wp) (fun y hy => ⟨hN.sk y hy, hN.wk y hy⟩) (by omega) ap cp ak ck xk r pre ((w.alloc (.cells #[.map (some b), .func (.yield l) #[] #[]] 72)).alloc (.cells #[.int .i64 8, .string (tx nm), .bool f, .int .u64 u, .slice ap ps.length cp, .slice ak ks.length ck, .slice ab bl.length cb, .slice aa al.length ca] 34)) (by omega) (hA.below T hx) ((T.row hA.j hA.zb hp).step (Step.below hx)) ((T.row hA.j hA.zb hk).step (Step.below hx)) (T.exs hA.j hA.zb (Step.below hx) tk))
    have HX := Hd hx
    have HN := Hd (show ns + ps.length + sumN wtE ks ≤ ns + (ps.length + sumN wtE ks + (bl.length + sumN nB bl) + sumN nA al) by omega)
    have hmf := func_made
    clear g1 g6 g7 g8 hx hx1 hA hp hk hb ha tk tb ta
    go_enter Try.func43, Try.ntmps43
    go_wp2_with fail
    refine HO.out.mono ?_
    rintro e w3 hh
    have H := Hd (varSaid_more (hh.from HX.out) HN.out)
    obtain ⟨rfl, -⟩ := hh
    clear HO
    go_wp2_with fail
    go_ret
    exact H.out
  rw [if_neg g8]
  have hx1 := (Below.refl w.heap.size w).alloc Nr (.cells #[.map (some b), .func (.yield l) #[] #[]] 72)
  have hx := hx1.alloc hx1.size (.cells #[.int .i64 k, .string (tx nm), .bool f, .int .u64 u, .slice ap ps.length cp, .slice ak ks.length ck, .slice ab bl.length cb, .slice aa al.length ca] 34)
  have HO := Hd (every_exs T n hP b ns dom ks hN.sk hN.wk (by omega) ak ck xk r pre ((w.alloc (.cells #[.map (some b), .func (.yield l) #[] #[]] 72)).alloc (.cells #[.int .i64 k, .string (tx nm), .bool f, .int .u64 u, .slice ap ps.length cp, .slice ak ks.length ck, .slice ab bl.length cb, .slice aa al.length ca] 34)) (by omega) (hA.below T hx) ((T.row hA.j hA.zb hk).step (Step.below hx)) (T.exs hA.j hA.zb (Step.below hx) tk))
  have HX := Hd hx
  have HN := Hd (show ns + sumN wtE ks ≤ ns + (ps.length + sumN wtE ks + (bl.length + sumN nB bl) + sumN nA al) by omega)
  have hmf := func_made
  clear hx hx1 hA hp hk hb ha tk tb ta
  go_enter Try.func43, Try.ntmps43
  go_wp2_with fail
  refine HO.out.mono ?_
  rintro e w3 hh
  have H := Hd (varSaid_more (hh.from HX.out) HN.out)
  obtain ⟨rfl, -⟩ := hh
  clear HO
  go_wp2_with fail
  go_ret
  exact H.out
theorem varc_all {M : Nat → Prop} {z l : Nat} {J : Option Nat → List Nm → World → Prop} (T : Teller M z l J) : ∀ n, VarC M z l J n
  | 0 => fun x _ _ _ _ _ _ _ _ _ _ _ _ _ _ _ _ _ _ _ _ _ _ h => by
    obtain ⟨k, n, f, u, ps, ks, bs, al⟩ := x
    simp only [Ex.mk.sizeOf_spec] at h
    omega
  | n + 1 => varc_step T n (varc_all T n)
theorem outside_any (a0 : Option Addr) (n0 c0 : Nat) (k : Int) (nm : Nm) (f : Bool) (u : Int) (ap : Option Addr) (np cp : Nat) (ak : Option Addr) (nk ck : Nat) (ab : Option Addr) (nb cb : Nat) (aa : Option Addr) (na ca : Nat) (w : World) :
    Calls Try.prog 20 #[.slice a0 n0 c0, .agg #[.int .i64 k, .string (tx nm), .bool f, .int .u64 u, .slice ap np cp, .slice ak nk ck, .slice ab nb cb, .slice aa na ca]] w fun e w' => e = .returned (.func (.func 29) #[] #[.pointer (some ⟨w.heap.size, 0, none⟩), .pointer (some ⟨w.heap.size + 1, 0, none⟩)]) ∧ w' = (w.alloc (.cells #[.slice a0 n0 c0] 22)).alloc (.cells #[.int .i64 k, .string (tx nm), .bool f, .int .u64 u, .slice ap np cp, .slice ak nk ck, .slice ab nb cb, .slice aa na ca] 34) := by
  have hmf := func_made
  go_enter Try.func20, Try.ntmps20
  go_wp2_with fail
  go_ret
  exact ⟨rfl, rfl⟩
theorem outside_walk {M : Nat → Prop} {l : Nat} {J : Option Nat → List Nm → World → Prop} (W : World) (T : Teller M W.heap.size l J) (ps : List Nm) (x : Ex) (hq : ∀ y, y ∈ ps → y.length ≤ 140737488355328) (hx : wvE x) (hn : ps.length + wtE x ≤ 100000) (Bp Be : Nat) (a0 : Option Addr) (c0 : Nat) (k : Int) (nm : Nm) (f : Bool) (u : Int) (ap : Option Addr) (np cp : Nat) (ak : Option Addr) (nk ck : Nat) (ab : Option Addr) (nb cb : Nat) (aa : Option Addr) (na ca : Nat) (hJ : J none [] W)
    (hp : W.cell? ⟨Bp, 0, none⟩ = some (.slice a0 ps.length c0)) (he : BoxW W Be [.int .i64 k, .string (tx nm), .bool f, .int .u64 u, .slice ap np cp, .slice ak nk ck, .slice ab nb cb, .slice aa na ca])
    (hr : RowAt W M 9 1 (.slice a0 ps.length c0) ps.length (namesV ps)) (ht : ExAt W M x [.int .i64 k, .string (tx nm), .bool f, .int .u64 u, .slice ap np cp, .slice ak nk ck, .slice ab nb cb, .slice aa na ca]) :
    Calls Try.prog 29 #[.func (.yield l) #[] #[], .pointer (some ⟨Bp, 0, none⟩), .pointer (some ⟨Be, 0, none⟩)] W fun e w' => (∃ v, e = .returned v) ∧ ∃ r', J r' (outE ps x) w' := by
  have hb := (Below.refl W.heap.size W).alloc Nr (.map #[] 0)
  have hA : At W.heap.size J W.heap.size 0 [] none [] (W.alloc (.map #[] 0)) := ⟨T.below hJ hb, Nat.le_refl _, (fun e => by cases e), nset_made W⟩
  have hM : ∀ g, M g → g < W.heap.size := T.low
  have HU := Hd (vunder_one T (SizeOf.sizeOf x) (varc_all T _) W.heap.size 0 [] ps x hq ⟨Nat.le_refl _, hx⟩ (by omega) a0 c0 k nm f u ap np cp ak nk ck ab nb cb aa na ca none [] (W.alloc (.map #[] 0)) (W.heap.size + 1) (by simp) (by simp; omega) hA (T.row hA.j hA.zb (hr.move fun g hk lt => ⟨hk, hb.block g lt⟩)) (ht.move fun g hk lt => ⟨hk, hb.block g lt⟩))
  have p0 := later' hb hp
  have q0 := later' hb (he.1 0 _ rfl)
  have q1 := later' hb (he.1 1 _ rfl)
  have q2 := later' hb (he.1 2 _ rfl)
  have q3 := later' hb (he.1 3 _ rfl)
  have q4 := later' hb (he.1 4 _ rfl)
  have q5 := later' hb (he.1 5 _ rfl)
  have q6 := later' hb (he.1 6 _ rfl)
  have q7 := later' hb (he.1 7 _ rfl)
  clear hb hA hr ht he hp
  have hmm := @run_makeMap Try.prog
  go_enter Try.func29, Try.ntmps29
  go_wp2_with fail
  refine HU.out.mono ?_
  rintro e w2 ⟨rfl, r', j', s', n'⟩
  rw [List.nil_append, List.nil_append] at j'
  have H := Hd j'
  clear HU s' n' j'
  go_wp2_with fail
  exact Go.Great.bodyPost_end0 rfl rfl ⟨⟨_, rfl⟩, r', H.out⟩
end Go.Proofs.Ytdjcdecbmeickaa
namespace Go.Proofs.Ytdjcdecbmeickaa
set_option maxHeartbeats 64000000
set_option maxRecDepth 100000
open Go.RowKit Go.Shelf Go.Lib
def onward (T : World → Prop) : Exit → Act → World → Prop
  | .normal, _, W => T W
  | _, _, _ => False
structure Booked (b : Nat) (r : Obj) (W : World) : Prop where
  turns : W.heap[b + 1]? = some r
  late : W.heap[b]? = some (.deferred (some []))
theorem Booked.lt {b : Nat} {r : Obj} {A : World} (h : Booked b r A) : b + 1 < A.heap.size := (Array.getElem?_eq_some_iff.1 h.turns).1
theorem yield_any {P : Program} {m m' l : Nat} {args : Array Value} {W : World} {R : Ending → World → Prop} (h : YieldAt Fence.wide m P l args W R) : YieldAt Fence.wide m' P l args W R := by
  obtain ⟨fn, tmps, assign, body, hy, hR⟩ := h
  exact ⟨fn, tmps, assign, body, hy, hR.1, fun c cs _ => hR.2 c cs (room_wide _)⟩
theorem Step.put {M : Nat → Prop} {z : Nat} {r : Option Nat} {W : World} {L : Nat} {o : Obj} (hM : ¬ M L) (hz : L < z) : Step M z none r W r (W.putObj L o) :=
  ⟨by simp [World.putObj], fun k _ hk _ _ => World.putObj_heap_other (fun e => by subst e; rcases hk with h | h; exact hM h; omega), Or.inl rfl⟩
theorem range_told {g : Operand} {p : Tmp} {assign body : Code} {Q : Exit → Act → World → Prop} {a : Act} {w : World} {gf : Nat} {lb : Array Value}
    (hg : a.eval g = .func (.func gf) #[] lb) (eg : ∀ args w, (callFunc gf args).run Try.prog w = .ok (.enter gf args) w)
    (M : Nat → Prop) (hM : ∀ k, M k → k < w.heap.size) (I : Option Nat → List Nm → World → Prop)
    (hlies : ∀ r pre W, I r pre W → w.heap.size + 2 ≤ W.heap.size ∧ ∀ k, r = some k → w.heap.size + 2 ≤ k ∧ k < W.heap.size)
    (hkeep : ∀ r pre W W', I r pre W → W'.os = W.os → W'.tape = W.tape → W'.output = W.output → W.heap.size ≤ W'.heap.size → (∀ k, k < W.heap.size → (k < w.heap.size ∨ some k = r) → W'.heap[k]? = W.heap[k]?) → I r pre W')
    (h0 : ∀ o o', I none [] ((w.alloc o).alloc o')) (a₁ : Nm → Act)
    (hassign : ∀ (n l : Nat) (x : Nm) (W : World) (K : Act → World → Prop), K (a₁ x) W →
      assign.wpIn (Fence.wide.inRound l) n Try.prog (Exit.then K (fun _ _ _ => False)) { tmps := (#[p].zip #[Value.string (tx x)]).foldl (fun t (p, v) => t.setIfInBounds p v) a.tmps, defers := [] } W)
    (hbody : ∀ (n l : Nat) (r : Option Nat) (pre : List Nm) (x : Nm) (W : World), I r pre W → x.length ≤ 140737488355328 → pre.length < 100000 → body.wpIn (Fence.wide.inRound l) n Try.prog (onward fun W' => KeepsFrom w.heap.size W W' ∧ ∃ r', I r' (pre ++ [x]) W' ∧ Step M (w.heap.size + 2) none r W r' W') (a₁ x) W)
    (ys : List Nm)
    (hiter : ∀ (J : Option Nat → List Nm → World → Prop) (W1 : World), Teller M (w.heap.size + 2) (w.heap.size + 1) J → W1.heap.size = w.heap.size + 2 → Below w.heap.size w W1 → J none [] W1 → Calls Try.prog gf (#[.func (.yield (w.heap.size + 1)) #[] #[]] ++ lb) W1 fun e W' => (∃ v, e = .returned v) ∧ ∃ r', J r' ys W')
    (hdone : ∀ (r : Option Nat) (W : World), I r ys W → W.heap[w.heap.size]? = some (.deferred (some [])) → Q .normal { a with defers := { target := .collected w.heap.size, args := #[] } :: a.defers } W) :
    (Code.rangeFunc g #[p] assign body).wpIn Fence.wide 3 Try.prog Q a w := by
  refine wpIn_rangeFunc ?_
  intro fn hfn
  let L : LoopState → Loop := fun st => { state := st, pending := none, fn, tmps := a.tmps, params := #[p], assign, body, defers := w.heap.size }
  have hrec : ∀ o : Obj, ((w.alloc o).alloc (.loop (L .ready))).heap[w.heap.size + 1]? = some (.loop (L .ready)) := fun o => by
    have := World.alloc_heap_new (w.alloc o) (.loop (L .ready))
    rwa [World.size_alloc] at this
  have hdef : ((w.alloc (.deferred (some []))).alloc (.loop (L .ready))).heap[w.heap.size]? = some (.deferred (some [])) :=
    (Below.heap_alloc _ _ _ (by simp)).trans (World.alloc_heap_new w _)
  have hput : ∀ r pre W o', I r pre W → I r pre (W.putObj (w.heap.size + 1) o') := fun r pre W o' hi =>
    hkeep r pre W _ hi rfl rfl rfl (by simp [World.putObj]) fun k hk hc => World.putObj_heap_other (fun e => by
      subst e
      rcases hc with h | h
      · omega
      · have := (hlies r pre W hi).2 _ h.symm; omega)
  have hB : Below w.heap.size w ((w.alloc (.deferred (some []))).alloc (.loop (L .ready))) := ((Below.refl _ w).alloc Nr _).alloc (by simp) _
  refine ⟨w.heap.size + 1, [{ target := .collected w.heap.size, args := #[] }], (w.alloc (.deferred (some []))).alloc (.loop (L .ready)), { target := .fn (.func gf) lb, args := #[.func (.yield (w.heap.size + 1)) #[] #[]] }, (w.alloc (.deferred (some []))).alloc (.loop (L .ready)), gf,
    #[.func (.yield (w.heap.size + 1)) #[] #[]] ++ lb, (w.alloc (.deferred (some []))).alloc (.loop (L .ready)), run_enterLoop_outer _ _ _ _ _, ?_, fun (_ : FuncId) _ => trivial, ?_, fun h => (by cases h), ?_⟩
  · simp only [resolve, hg]
    simp [go_sem]
  · simp [invoke, go_sem, eg, L]
  have hM1 : ¬ M (w.heap.size + 1) := fun h => by have := hM _ h; omega
  have T : Teller M (w.heap.size + 2) (w.heap.size + 1) (fun r pre W => I r pre W ∧ Booked w.heap.size (.loop (L .ready)) W) := by
    refine ⟨fun k h => by have := hM k h; omega, fun r pre W h => hlies r pre W h.1, ?_, ?_⟩
    · intro r pre W W' h ho ht hu hs hk
      have hl := h.2.lt
      exact ⟨hkeep r pre W W' h.1 ho ht hu hs fun k hk1 hc => hk k hk1 (by rcases hc with h | h; exact Or.inl (by omega); exact Or.inr h), (hk _ hl (Or.inl (by omega))).trans h.2.turns, (hk _ (by omega) (Or.inl (by omega))).trans h.2.late⟩
    · intro r pre x W m hJ hx hpre
      obtain ⟨hi, hb⟩ := hJ
      have hy := run_yield (P := Try.prog) (args := #[Value.string (tx x)]) hb.turns (by simp [L])
      refine yield_any (m := 1) ⟨fn, _, assign, body, hy, roundIn_of_wpIn hfn (hassign _ _ x W _ ⟨_, run_beginRound hb.turns rfl, ?_⟩)⟩
      have hb1 : (W.putObj (w.heap.size + 1) (.loop { L .ready with state := .busy })).heap[w.heap.size + 1]? = some (.loop (L .busy)) := World.putObj_heap_same hb.lt
      have hb2 : (W.putObj (w.heap.size + 1) (.loop { L .ready with state := .busy })).heap[w.heap.size]? = some (.deferred (some [])) := (World.putObj_heap_other (by omega)).trans hb.late
      refine wpIn_mono (hbody _ _ r pre x _ (hput _ _ _ _ hi) hx hpre) ?_
      intro e a3 W3 hp
      cases e with
      | normal =>
        obtain ⟨hk, r', hi3, hs⟩ := hp
        have h1 := hk.same _ _ (by omega) hb1 rfl
        have h2 := hk.same _ _ Nr hb2 rfl
        exact ⟨_, _, run_endRound (P := Try.prog) none h1, rfl, r', ⟨hput _ _ _ _ hi3, World.putObj_heap_same (Array.getElem?_eq_some_iff.1 h1).1, (World.putObj_heap_other (by omega)).trans h2⟩, ((Step.put hM1 (by omega)).trans hs).trans (Step.put hM1 (by omega))⟩
      | ret => exact hp.elim
      | exit id => exact hp.elim
      | goto t => exact hp.elim
      | panic ch => exact hp.elim
      | outgrown => exact hp.elim
  refine (callsIn_wide.2 (hiter _ _ T (by simp) hB ⟨h0 _ _, hrec _, hdef⟩)).mono ?_
  rintro e W2 ⟨⟨v, rfl⟩, r', hi, hb⟩
  exact ⟨none, _, run_endLoop (P := Try.prog) hb.turns (by simp [L]), hdone r' _ (hput _ _ _ _ hi) ((World.putObj_heap_other (by omega)).trans hb.late)⟩
attribute [local go_sem] Oper.semAt_some
theorem wpListIn_mput {F : Fence} {nF : Nat} {ops : Array Oper} {rest : List Oper} {o : Oper} {a : Act} {Q : Exit → Act → World → Prop} (w : World) (hg : o.guard = none) (m x v : Operand) (hop : o.op = Op.mapUpdate 52 m x v)
    (b n : Nat) (dom : List Nm) (hm : a.eval m = .map (some b)) (h : NSet w b n dom) (hn : n < 100000000) (k : Nm) (hx : a.eval x = .string (tx k)) (hv : a.eval v = .bool true) (hk : k.length ≤ 140737488355328)
    (hK : ∀ w', NSet w' b (n + 1) (dom ++ [k]) → w.grownBy w' (some b) → wpListIn F nF Try.prog ops Q rest (a.put o.dst undef) w') : wpListIn F nF Try.prog ops Q (o :: rest) a w := by
  obtain ⟨D, h1, h2⟩ := h
  refine wpListIn_mapUpdate_own w hg m x v _ hop 9 4 (Maps.string_keyed Try.underlying9) Try.underlying52 _ b n D hm h1 (by unfold maxLen; omega) _ _ (.string k) hx hv (nkey_v k hk) (.lit (.bool true)) [] (plainElem_bool Try.underlying4 true) ?_
  intro w' h1' hg'
  refine hK w' ⟨_, h1', fun y => ?_⟩ hg'
  have hT := h1.tidy (Maps.string_keyed Try.underlying9)
  by_cases e : y = k
  · subst e
    rw [Maps.atKey_put_same hT.isMap (by trivial)]
    simp
  · rw [Maps.atKey_put_other (by simpa using e), h2]
    simp [e]
theorem dedup_len : ∀ (l a : List Nm), (dedup a l).length ≤ a.length + l.length
  | [], a => Nat.le_refl _
  | x :: l, a => by
    show (if x ∈ a then dedup a l else dedup (a ++ [x]) l).length ≤ _
    have h1 := dedup_len l a
    have h2 := dedup_len l (a ++ [x])
    simp only [List.length_append, List.length_cons, List.length_nil] at h1 h2 ⊢
    split <;> omega
structure ToldV (s : Nat) (w : World) (r : Option Nat) (pre : List Nm) (W : World) : Prop where
  below : Below s w W
  size : s + 8 ≤ W.heap.size
  told : W.cell? ⟨s + 3, 0, none⟩ = some (.map (some (s + 2)))
  set : NSet W (s + 2) pre.length (dedup [] pre)
  free : ∃ v, (W.cell? ⟨s + 1, 0, none⟩ = some v ∧ W.frozen? ⟨s + 1, 0, none⟩ = false) ∧ W.ownsRow (s + 8) 9 1 v (dedup [] pre).length (namesV (dedup [] pre)) ∧ r = v.ownBlock
theorem ToldV.lies {s : Nat} {w : World} {r : Option Nat} {pre : List Nm} {W : World} (h : ToldV s w r pre W) : s + 8 ≤ W.heap.size ∧ ∀ k, r = some k → s + 8 ≤ k ∧ k < W.heap.size := by
  refine ⟨h.size, fun k hk => ?_⟩
  obtain ⟨v, -, ho, hr⟩ := h.free
  exact ho.lt k (by rw [← hr, hk])
theorem ToldV.keep {s : Nat} {w : World} {r : Option Nat} {pre : List Nm} {W W' : World} (h : ToldV s w r pre W) (h1 : W'.os = W.os) (h2 : W'.tape = W.tape) (h3 : W'.output = W.output) (hz : W.heap.size ≤ W'.heap.size) (hk : ∀ k, k < W.heap.size → (k < s + 6 ∨ some k = r) → W'.heap[k]? = W.heap[k]?) : ToldV s w r pre W' := by
  have hs := h.size
  obtain ⟨v, hf, ho, hr⟩ := h.free
  refine ⟨⟨h1.trans h.below.os, h2.trans h.below.tape, h3.trans h.below.output, Nt h.below.size hz, fun k hk1 => ?_⟩, by omega, (World.cell?_of_block (w := W) (hk (s + 3) (by omega) (Or.inl (by omega)))).trans h.told, h.set.same (hk _ (by omega) (Or.inl (by omega))), v, ⟨(World.cell?_of_block (w := W) (hk (s + 1) (by omega) (Or.inl (by omega)))).trans hf.1, (World.frozen?_of_block (w := W) (hk (s + 1) (by omega) (Or.inl (by omega)))).trans hf.2⟩, ?_, hr⟩
  · have := h.below.size
    exact (hk k (by omega) (Or.inl (by omega))).trans (h.below.block k hk1)
  · obtain ⟨h0, ⟨e1, e2⟩ | ⟨g, cap, cur, e1, e2, e3, e4⟩⟩ := ho
    · exact ⟨h0, Or.inl ⟨e1, e2⟩⟩
    · refine ⟨h0, Or.inr ⟨g, cap, cur, e1, e2, ?_, e4⟩⟩
      have hb : r = some g := by rw [hr, e1]; rfl
      have hlt := (h.lies.2 g hb).2
      rw [hk g hlt (Or.inr hb.symm)]
      exact e3
theorem told_more {s z : Nat} {w W w4 w5 w9 : World} {ob : Obj} {r : Option Nat} {pre : List Nm} {y : Nm} {v : Value} {g9 cap9 L : Nat} (hL : (dedup [] pre).length = L) (hz : z = s + 6) (hI : ToldV s w r pre W)
    (ho : W.ownsRow (s + 8) 9 1 v L (namesV (dedup [] pre))) (hr : r = v.ownBlock) (hds : dedup [] (pre ++ [y]) = dedup [] pre ++ [y]) (h4 : NSet w4 (s + 2) (pre.length + 1) (dedup [] pre ++ [y])) (g4 : W.grownBy w4 (some (s + 2))) (hb5 : Below w4.heap.size w4 w5)
    (o1 : w9.ownsRow (s + 8) 9 1 (.slice (some ⟨g9, 0, none⟩) (L + 1) cap9) (L + 1) (namesV (dedup [] pre) ++ [.string (tx y)])) (o2 : (w5.alloc ob).grownBy w9 v.ownBlock) (o3 : v.ownBlock = some g9 ∨ g9 = (w5.alloc ob).heap.size)
    (cf9 : w9.cell? ⟨s + 1, 0, none⟩ = some v) (cz9 : w9.frozen? ⟨s + 1, 0, none⟩ = false) :
    KeepsFrom z W (w9.setCell ⟨s + 1, 0, none⟩ (.slice (some ⟨g9, 0, none⟩) (L + 1) cap9)) ∧ ∃ r', ToldV s w r' (pre ++ [y]) (w9.setCell ⟨s + 1, 0, none⟩ (.slice (some ⟨g9, 0, none⟩) (L + 1) cap9)) ∧ Step (fun g => g < s) (z + 2) none r W r' (w9.setCell ⟨s + 1, 0, none⟩ (.slice (some ⟨g9, 0, none⟩) (L + 1) cap9)) := by
  subst hz
  have hx := (Below.refl w5.heap.size w5).alloc Nr ob
  have hb6 := onB' hb5 hx
  have s4 := g4.size
  have s6 := hb6.size
  have s9 := o2.size
  have hli := hI.lies
  have hsz := hI.size
  have hown : ∀ k, v.ownBlock = some k → s + 8 ≤ k := fun k hk => (hli.2 k (hr.trans hk)).1
  -- from w4 on
  have k4 : ∀ k, k < w4.heap.size → k ≠ s + 1 → some k ≠ r → (w9.setCell ⟨s + 1, 0, none⟩ (.slice (some ⟨g9, 0, none⟩) (L + 1) cap9)).heap[k]? = w4.heap[k]? := fun k hk h1 h2 =>
    (Below.heap_setCell _ _ _ _ h1).trans ((o2.block k (by omega) (by rw [← hr]; exact h2)).trans (hb6.block k hk))
  have kW : ∀ k, k < W.heap.size → k ≠ s + 1 → k ≠ s + 2 → some k ≠ r → (w9.setCell ⟨s + 1, 0, none⟩ (.slice (some ⟨g9, 0, none⟩) (L + 1) cap9)).heap[k]? = W.heap[k]? := fun k hk h1 h2 h3 =>
    (k4 k (by omega) h1 h3).trans (g4.block k hk (fun e => h2 (Oi e)))
  have hlow : ∀ k, k < s + 8 → some k ≠ r := fun k hk e => by have := (hli.2 k e.symm).1; omega
  have hzz : W.heap.size ≤ (w9.setCell ⟨s + 1, 0, none⟩ (.slice (some ⟨g9, 0, none⟩) (L + 1) cap9)).heap.size := by rw [World.size_setCell]; omega
  have hS := (Below.refl 0 w9).setCell (p := ⟨s + 1, 0, none⟩) (Nat.zero_le _) (.slice (some ⟨g9, 0, none⟩) (L + 1) cap9)
  have hos : (w9.setCell ⟨s + 1, 0, none⟩ (.slice (some ⟨g9, 0, none⟩) (L + 1) cap9)).os = w9.os := hS.os
  have hta : (w9.setCell ⟨s + 1, 0, none⟩ (.slice (some ⟨g9, 0, none⟩) (L + 1) cap9)).tape = w9.tape := hS.tape
  have hou : (w9.setCell ⟨s + 1, 0, none⟩ (.slice (some ⟨g9, 0, none⟩) (L + 1) cap9)).output = w9.output := hS.output
  have hbW := hI.below.size
  refine ⟨⟨hzz, fun k o hB hk hc => ?_⟩, some g9, ⟨⟨?_, ?_, ?_, Nt hI.below.size hzz, fun k hk => (kW k (by omega) (by omega) (by omega) (hlow k (by omega))).trans (hI.below.block k hk)⟩, by omega, ?_, ?_, ?_⟩, ⟨hzz, fun k hk hm _ hr2 => kW k hk (by rcases hm with h | h <;> omega) (by rcases hm with h | h <;> omega) hr2, ?_⟩⟩
  · have hlt := (Array.getElem?_eq_some_iff.1 hk).1
    refine (kW k hlt (by omega) (by omega) (fun e => ?_)).trans hk
    obtain ⟨h0, ⟨e1, e2⟩ | ⟨g, cap, cur, e1, e2, e3, e4⟩⟩ := ho
    · rw [hr, e1] at e; cases e
    · rw [hr, e1] at e
      have : k = g := Oi e
      subst this
      rw [e3] at hk
      cases hk
      cases hc
  · exact hos.trans (o2.os.trans (hb6.os.trans (g4.os.trans hI.below.os)))
  · exact hta.trans (o2.tape.trans (hb6.tape.trans (g4.tape.trans hI.below.tape)))
  · exact hou.trans (o2.output.trans (hb6.output.trans (g4.output.trans hI.below.output)))
  · exact (World.cell?_of_block (w := W) (kW (s + 3) (by omega) (by omega) (by omega) (hlow _ (by omega)))).trans hI.told
  · rw [hds, List.length_append]
    exact h4.same (k4 (s + 2) (by omega) (by omega) (hlow _ (by omega)))
  · refine ⟨_, ⟨World.cell?_setCell_same _ _ _ cf9, by rw [World.frozen?_setCell]; exact cz9⟩, ?_, rfl⟩
    have h := ownsRow_setCell_below o1 (a := ⟨s + 1, 0, none⟩) (show s + 1 < s + 8 by omega) (.slice (some ⟨g9, 0, none⟩) (L + 1) cap9)
    rw [hds, List.length_append, hL]
    simpa [namesV] using h
  · rcases o3 with h | h
    · exact Or.inl (by rw [hr, h])
    · exact Or.inr ⟨g9, rfl, by omega⟩
end Go.Proofs.Ytdjcdecbmeickaa
namespace Go.Proofs.Ytdjcdecbmeickaa
open Go.Shelf Go.Proofs
def vcLaysM316_ren : Go.Shelf.Ren := ⟨fun | 316 => 31 | n => n, fun | 9 => 9 | 3 => 3 | 4 => 4 | 37 => 90 | 0 => 0 | 127 => 91 | 5 => 5 | n => n, fun | n => n⟩
theorem vcLaysM316 : Go.Proofs.LaysM.n316 Try.prog vcLaysM316_ren := {
  mixed := by kernel_rfl
  f316 := Try.func31.trans (congrArg some (by kernel_rfl))
  t0 := Try.underlying0
  a0 := Try.isAgg0
  z0 := Try.sizeOf0
  v0 := Try.zeroValue0
  t3 := Try.underlying3
  a3 := Try.isAgg3
  z3 := Try.sizeOf3
  v3 := Try.zeroValue3
  t4 := Try.underlying4
  a4 := Try.isAgg4
  z4 := Try.sizeOf4
  v4 := Try.zeroValue4
  t9 := Try.underlying9
  a9 := Try.isAgg9
  z9 := Try.sizeOf9
  v9 := Try.zeroValue9
  t37 := Try.underlying90
  a37 := Try.isAgg90
  z37 := Try.sizeOf90
  v37 := Try.zeroValue90
  t127 := Try.underlying91
  a127 := Try.isAgg91
  z127 := Try.sizeOf91
  v127 := Try.zeroValue91
  t5 := Try.underlying5
  a5 := Try.isAgg5
  z5 := Try.sizeOf5
  v5 := Try.zeroValue5
  i0 := by kernel_rfl
  i3 := by kernel_rfl
  i4 := by kernel_rfl
  i5 := by kernel_rfl
  i9 := by kernel_rfl
  i37 := by kernel_rfl
  i127 := by kernel_rfl }
set_option maxHeartbeats 64000000
set_option maxRecDepth 100000
open Go.RowKit in
theorem vc_stringslite_Clone (s : ByteArray) (w : World) (hlim : s.size ≤ 281474976710656) :
    Calls Try.prog 31 #[.string s] w fun e w' => e = .returned (.string s) ∧ Below w.heap.size w w' := Any.stringslite_Clone vcLaysM316 s w hlim
open Go.RowKit Go.Lib
theorem clone_any (s : ByteArray) (hs : s.size ≤ 140737488355328) (w : World) : Calls Try.prog 21 #[.string s] w fun e w' => e = .returned (.string s) ∧ Below w.heap.size w w' := by
  have h1 := Hd (fun W => vc_stringslite_Clone s W (by omega))
  go_enter Try.func21, Try.ntmps21
  go_wp2_with fail
  refine (h1.out w).mono ?_
  rintro e w2 ⟨rfl, hb⟩
  have HB := Hd hb
  clear hb
  go_wp2_with fail
  go_ret
  exact ⟨rfl, HB.out⟩
end Go.Proofs.Ytdjcdecbmeickaa
