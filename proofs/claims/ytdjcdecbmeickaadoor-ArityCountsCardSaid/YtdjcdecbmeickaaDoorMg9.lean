import Derived.Deep.RegionHeld3
import Derived.LaidEql
import Derived.Stop.Asserts
import Derived.RowKitTokens
import Derived.Test.YtdjcdecbmeickaaDoorMg3
import Derived.Test.YtdjcdecbmeickaaDoorMg4
import Derived.Test.YtdjcdecbmeickaaDoorMg7
namespace Go.Proofs.YtdjcdecbmeickaaDoor
set_option maxHeartbeats 64000000
set_option maxRecDepth 100000
open Go.RowKit Go.Lib
theorem bNames_len (bl : List Bnd) : (bNames bl).length = bl.length := by simp [bNames]
theorem plet_any (n : Nat) (hP : PlcC n) (bc nc : Nat) (cs : List Nm) (bs ns : Nat) (sc : List Nm) (k : Int) (nm : Nm) (f : Bool) (u : Int) (ps : List Nm) (ks : List Ex) (bl : List Bnd) (al : List Alt) (ap : Option Addr) (cp : Nat) (ak : Option Addr) (ck : Nat) (ab : Option Addr) (cb : Nat) (aa : Option Addr) (ca : Nat) (hN : NodeOk n ns k nm f u ps ks bl al) (K : Nat → Prop) (xk xb : List Value) (w : World) (hc : NSet w bc nc cs) (hs : NSet w bs ns sc) (hk : RowAt w K 46 8 (.slice ak ks.length ck) ks.length xk) (hb : RowAt w K 48 10 (.slice ab bl.length cb) bl.length xb) (tk : ExsAt w K ks xk) (tb : BndsAt w K bl xb) :
    Calls Tryd.prog 98 #[.agg #[.map (some bc), .map (some bs)], .agg #[.int .i64 k, .string (tx nm), .bool f, .int .u64 u, .slice ap ps.length cp, .slice ak ks.length ck, .slice ab bl.length cb, .slice aa al.length ca]] w fun e w' => e = .returned (vErr ((twF (bNames bl)).or ((scBs cs (sc ++ bNames bl) bl).or (scEs cs (sc ++ bNames bl) ks)))) ∧ Below w.heap.size w w' := by
  have hx1 := (Below.refl w.heap.size w).alloc Nr (.cells #[.map (some bc), .map (some bs)] 113)
  have hx := hx1.alloc hx1.size (.cells #[.int .i64 k, .string (tx nm), .bool f, .int .u64 u, .slice ap ps.length cp, .slice ak ks.length ck, .slice ab bl.length cb, .slice aa al.length ca] 46)
  have hB1 := (BoxW.alloc w #[.map (some bc), .map (some bs)] 113).below (Br.alloc Nr (.cells #[.int .i64 k, .string (tx nm), .bool f, .int .u64 u, .slice ap ps.length cp, .slice ak ks.length ck, .slice ab bl.length cb, .slice aa al.length ca] 46))
  have hB2 := BoxW.alloc (w.alloc (.cells #[.map (some bc), .map (some bs)] 113)) #[.int .i64 k, .string (tx nm), .bool f, .int .u64 u, .slice ap ps.length cp, .slice ak ks.length ck, .slice ab bl.length cb, .slice aa al.length ca] 46
  rw [show (w.alloc (.cells #[.map (some bc), .map (some bs)] 113)).heap.size = w.heap.size + 1 by simp] at hB2
  have hwt := hN.wt
  have hlb := sumN_len nB (fun b => by unfold nB; omega) bl
  have hnl := bNames_len bl
  have HX := Hd (Ai hx (Ai hB1 hB2))
  have HO := Hd (Ai hc (Ai hs (Ai hk (Ai hb (Ai tk tb)))))
  have hmf := func_made
  clear hx hx1 hB1 hB2 hc hs hk hb tk tb
  go_enter Tryd.func98, Tryd.ntmps98
  go_upto_region 1 with fail
  generalize ((w.alloc (.cells #[.map (some bc), .map (some bs)] 113)).alloc (.cells #[.int .i64 k, .string (tx nm), .bool f, .int .u64 u, .slice ap ps.length cp, .slice ak ks.length ck, .slice ab bl.length cb, .slice aa al.length ca] 46)) = W at *
  have d0 : W.cell? ⟨w.heap.size, 0, none⟩ = some (.map (some bc)) := HX.out.2.1.1 0 _ rfl
  have d1 : W.cell? ⟨w.heap.size, 1, none⟩ = some (.map (some bs)) := HX.out.2.1.1 1 _ rfl
  have d4 : W.cell? ⟨w.heap.size + 1, 5, none⟩ = some (.slice ak ks.length ck) := HX.out.2.2.1 5 _ rfl
  have d5 : W.cell? ⟨w.heap.size + 1, 6, none⟩ = some (.slice ab bl.length cb) := HX.out.2.2.1 6 _ rfl
  have HNm := Hd (fun (V : World) (hb : Below w.heap.size w V) => names_of_any bl ab cb K K xb V (by omega) (HO.out.2.2.2.1.move fun g hg lt => ⟨hg, hb.block g lt⟩) (HO.out.2.2.2.2.2.move fun g hg lt => ⟨hg, hb.block g lt⟩))
  have hlm : ∀ x, x ∈ bNames bl → x.length ≤ 100000 := fun x hx => by
    obtain ⟨b, hb, rfl⟩ := List.mem_map.1 hx
    exact (hN.wb b hb).1.2
  have HU := Hd (fun (V V1 : World) (lo : Nat) (v : Value) (a : Option Addr) (c : Nat) (hv : v = .slice a bl.length c) (hb : Below w.heap.size w V) (ho : V1.ownsRow lo 9 1 v bl.length (namesV (bNames bl))) (hbv : Below V1.heap.size V1 V) => under_any bc bs ns sc (bNames bl) hlm (by omega) a c (fun _ => True) V (HO.out.2.1.later hb) (by rw [hv, ← hnl] at ho; exact (RowAt.of ho (fun _ _ => trivial)).move fun g _ lt => ⟨trivial, hbv.block g lt⟩))
  rw [hnl] at HU
  clear hlm
  have hq1 : w.heap.size + 1 < W.heap.size := Bl d5
  have hq0 : w.heap.size < W.heap.size := by omega
  cases htw : twF (bNames bl) with
  | some fo =>
    obtain ⟨er, nn⟩ := fo
    have HT := Hd htw
    clear htw
    go_region_held3 (fun W' => W'.cell? ⟨w.heap.size, 0, none⟩ = some (.map (some bc)) ∧ W'.cell? ⟨w.heap.size, 1, none⟩ = some (.map (some bs)) ∧ W'.cell? ⟨w.heap.size + 1, 6, none⟩ = some (.slice ab bl.length cb)) (first | exact ⟨k0, k1, k6⟩ | exact ⟨r0, r1, r6⟩ | exact ⟨d0, d1, d5⟩ | exact ⟨(at_far _ _ _ _ _ _ (by omega)).trans ((at_far _ _ _ _ _ _ (by omega)).trans k0), (at_far _ _ _ _ _ _ (by omega)).trans ((at_far _ _ _ _ _ _ (by omega)).trans k1), (at_far _ _ _ _ _ _ (by omega)).trans ((at_far _ _ _ _ _ _ (by omega)).trans k6)⟩ | go_keep) (first
      | (go_at_call 42
         refine (HNm.out _ ?hbV).mono ?_
         case hbV => first | exact HX.out.1.drew | exact (HX.out.1.drew).alloc (show w.heap.size ≤ W.heap.size from HX.out.1.size) _
         rintro e w1 ⟨⟨v, rfl, ho⟩, hb1⟩
         obtain ⟨av, cv, rfl, -⟩ := own_shape ho
         have HWw : Below W.heap.size W w1 := by first | exact onB' ((Below.refl W.heap.size W).drew) hb1 | exact onB' (((Below.refl W.heap.size W).drew).alloc Nr _) hb1
         have r0 := later' HWw d0
         have r1 := later' HWw d1
         have r6 := later' HWw d5
         have hq2 : w.heap.size < w1.heap.size := by have := HWw.size; omega
         have hq3 : w.heap.size + 1 < w1.heap.size := by have := HWw.size; omega
         have hw1 := HWw.size
         first | (have HBx : BoxW w1 W.heap.size [.map none, .map none] := (BoxW.alloc W.drew #[.map none, .map none] 113).below hb1) | skip
         have H1 : Below w.heap.size w w1 := by first | exact onB' HX.out.1.drew hb1 | exact onB' ((HX.out.1.drew).alloc (show w.heap.size ≤ W.heap.size from HX.out.1.size) _) hb1)
      | (go_at_call 90
         refine (HU.out _ w1 _ _ av cv rfl ?hb2 ho ?hb3).mono ?_
         case hb2 => first | exact H1 | exact H1.alloc H1.size _
         case hb3 => first | exact Br | exact Br.alloc Nr _
         rintro e w2 ⟨hw, hb2⟩
         unfold UnderSaid at hw
         rw [HT.out] at hw
         subst hw; unfold vErr
         have H12 : Below w1.heap.size w1 w2 := by first | exact hb2 | exact onB' ((Below.refl w1.heap.size w1).alloc Nr _) hb2
         have k0 := later' H12 r0
         have k1 := later' H12 r1
         have k6 := later' H12 r6
         have k5 := later' (onB' HWw H12) d4
         first | (have HBz : BoxW w2 w1.heap.size [.map none, .map none] := (BoxW.alloc w1 #[.map none, .map none] 113).below hb2) | (have HBz : BoxW w2 W.heap.size [.map none, .map none] := HBx.below hb2) | skip
         first | (have q0 := HBz.1 0 _ rfl; have q1 := HBz.1 1 _ rfl; have z0 := HBz.2 0; have z1 := HBz.2 1) | skip
         have H2 : Below w.heap.size w w2 := by first | exact onB' H1 hb2 | exact onB' (H1.alloc H1.size _) hb2))
    all_goals (go_wp2_with fail; go_ret; refine ⟨by rw [HT.out]; rfl, ?_⟩; first | exact H2.alloc H2.size _ | (have h1 := H1.size; have h0 := HX.out.1.size; exact below_of_new (below_of_new H2 (set_grown ..) (by omega)) (set_grown ..) (by omega)))
  | none =>
    have HT := Hd htw
    clear htw
    go_region_held3 (fun W' => W'.cell? ⟨w.heap.size, 0, none⟩ = some (.map (some bc)) ∧ W'.cell? ⟨w.heap.size, 1, none⟩ = some (.map (some bs)) ∧ W'.cell? ⟨w.heap.size + 1, 6, none⟩ = some (.slice ab bl.length cb)) (first | exact ⟨k0, k1, k6⟩ | exact ⟨r0, r1, r6⟩ | exact ⟨d0, d1, d5⟩ | exact ⟨(at_far _ _ _ _ _ _ (by omega)).trans ((at_far _ _ _ _ _ _ (by omega)).trans k0), (at_far _ _ _ _ _ _ (by omega)).trans ((at_far _ _ _ _ _ _ (by omega)).trans k1), (at_far _ _ _ _ _ _ (by omega)).trans ((at_far _ _ _ _ _ _ (by omega)).trans k6)⟩ | go_keep) (first
      | (go_at_call 42
         refine (HNm.out _ ?hbV).mono ?_
         case hbV => first | exact HX.out.1.drew | exact (HX.out.1.drew).alloc (show w.heap.size ≤ W.heap.size from HX.out.1.size) _
         rintro e w1 ⟨⟨v, rfl, ho⟩, hb1⟩
         obtain ⟨av, cv, rfl, -⟩ := own_shape ho
         have HWw : Below W.heap.size W w1 := by first | exact onB' ((Below.refl W.heap.size W).drew) hb1 | exact onB' (((Below.refl W.heap.size W).drew).alloc Nr _) hb1
         have r0 := later' HWw d0
         have r1 := later' HWw d1
         have r6 := later' HWw d5
         have hq2 : w.heap.size < w1.heap.size := by have := HWw.size; omega
         have hq3 : w.heap.size + 1 < w1.heap.size := by have := HWw.size; omega
         have hw1 := HWw.size
         first | (have HBx : BoxW w1 W.heap.size [.map none, .map none] := (BoxW.alloc W.drew #[.map none, .map none] 113).below hb1) | skip
         have H1 : Below w.heap.size w w1 := by first | exact onB' HX.out.1.drew hb1 | exact onB' ((HX.out.1.drew).alloc (show w.heap.size ≤ W.heap.size from HX.out.1.size) _) hb1)
      | (go_at_call 90
         refine (HU.out _ w1 _ _ av cv rfl ?hb2 ho ?hb3).mono ?_
         case hb2 => first | exact H1 | exact H1.alloc H1.size _
         case hb3 => first | exact Br | exact Br.alloc Nr _
         rintro e w2 ⟨hw, hb2⟩
         unfold UnderSaid at hw
         rw [HT.out] at hw
         obtain ⟨b, rfl, hs⟩ := hw
         have H12 : Below w1.heap.size w1 w2 := by first | exact hb2 | exact onB' ((Below.refl w1.heap.size w1).alloc Nr _) hb2
         have k0 := later' H12 r0
         have k1 := later' H12 r1
         have k6 := later' H12 r6
         have k5 := later' (onB' HWw H12) d4
         first | (have HBz : BoxW w2 w1.heap.size [.map none, .map none] := (BoxW.alloc w1 #[.map none, .map none] 113).below hb2) | (have HBz : BoxW w2 W.heap.size [.map none, .map none] := HBx.below hb2) | skip
         first | (have q0 := HBz.1 0 _ rfl; have q1 := HBz.1 1 _ rfl; have z0 := HBz.2 0; have z1 := HBz.2 1) | skip
         have H2 : Below w.heap.size w w2 := by first | exact onB' H1 hb2 | exact onB' (H1.alloc H1.size _) hb2))
    · clear hb1 hb2 H12 HWw HNm HU ho k0 k1 d0 d1 d4 d5 r0 r1 r6
      have hy := (Below.refl w2.heap.size w2).alloc Nr (.cells #[.map (some bc), .map (some b)] 113)
      have HE := Hd (Ai (onB' H2 hy) (hs.later hy))
      have HBy := Hd (BoxW.alloc w2 #[.map (some bc), .map (some b)] 113)
      have x5 := later' hy k5
      have x6 := later' hy k6
      clear hy
      clear k5 k6 hs
      generalize (w2.alloc (.cells #[.map (some bc), .map (some b)] 113)) = W3 at *
      have s0 : W3.cell? ⟨w2.heap.size, 0, none⟩ = some (.map (some bc)) := HBy.out.1 0 _ rfl
      have s1 : W3.cell? ⟨w2.heap.size, 1, none⟩ = some (.map (some b)) := HBy.out.1 1 _ rfl
      have HF1 := Hd (first_binds n hP bc nc cs b (ns + (bNames bl).length) (sc ++ bNames bl) bl hN.sb hN.wb (by omega) ab cb K K xb W3 (HO.out.1.later HE.out.1) HE.out.2 (HO.out.2.2.2.1.move fun g hg lt => ⟨hg, HE.out.1.block g lt⟩) (HO.out.2.2.2.2.2.move fun g hg lt => ⟨hg, HE.out.1.block g lt⟩))
      go_wp2_with fail
      refine HF1.out.mono ?_
      rintro e w4 ⟨rfl, hb4⟩
      have HB4 := Hd (Ai (onB' HE.out.1 hb4) (HE.out.2.later hb4))
      have y5 := later' hb4 x5
      have y0 := later' hb4 s0
      have y1 := later' hb4 s1
      clear hb4 HF1 s0 s1 x5 x6
      cases hfo : scBs cs (sc ++ bNames bl) bl with
      | some fo =>
        obtain ⟨er, nn⟩ := fo
        have HT2 := Hd hfo
        unfold vErr
        clear hfo
        go_wp2_with fail
        go_ret
        exact ⟨by rw [HT.out, HT2.out]; rfl, HB4.out.1⟩
      | none =>
        have HT2 := Hd hfo
        unfold vErr
        clear hfo
        have HF2 := Hd (first_exprs n hP bc nc cs b (ns + (bNames bl).length) (sc ++ bNames bl) ks hN.sk hN.wk (by omega) ak ck K xk w4 (HO.out.1.later HB4.out.1) HB4.out.2 (HO.out.2.2.1.move fun g hg lt => ⟨hg, HB4.out.1.block g lt⟩) (HO.out.2.2.2.2.1.move fun g hg lt => ⟨hg, HB4.out.1.block g lt⟩))
        go_wp2_with fail
        refine HF2.out.mono ?_
        rintro e w5 ⟨rfl, hb5⟩
        have HB5 := Hd (onB' HB4.out.1 hb5)
        clear hb5 HF2
        go_wp2_with fail
        go_ret
        exact ⟨by rw [HT.out, HT2.out]; rfl, HB5.out⟩
    · clear hb1 hb2 H12 HWw HNm HU ho k0 k1 d0 d1 d4 d5 r0 r1 r6
      have h1s := H1.size
      have h0s := HX.out.1.size
      have hg := Gt (set_grown w2 w1.heap.size 0 (.map (some bc))) (set_grown (w2.setCell ⟨w1.heap.size, 0, none⟩ (.map (some bc))) w1.heap.size 1 (.map (some b)))
      have HE := Hd (Ai (below_of_new H2 hg (by omega)) (hs.same (hg.block b hs.lt (by simpa using hs.ne q0))))
      have HBy := Hd (show BoxW ((w2.setCell ⟨w1.heap.size, 0, none⟩ (.map (some bc))).setCell ⟨w1.heap.size, 1, none⟩ (.map (some b))) w1.heap.size [.map (some bc), .map (some b)] from (HBz.set 0 (show 0 < 2 by decide) (.map (some bc))).set 1 (show 1 < 2 by decide) (.map (some b)))
      have x5 := hg.cell k5 (by simp; omega)
      have x6 := hg.cell k6 (by simp; omega)
      clear hg HBz
      clear k5 k6 hs
      generalize ((w2.setCell ⟨w1.heap.size, 0, none⟩ (.map (some bc))).setCell ⟨w1.heap.size, 1, none⟩ (.map (some b))) = W3 at *
      have s0 : W3.cell? ⟨w1.heap.size, 0, none⟩ = some (.map (some bc)) := HBy.out.1 0 _ rfl
      have s1 : W3.cell? ⟨w1.heap.size, 1, none⟩ = some (.map (some b)) := HBy.out.1 1 _ rfl
      have HF1 := Hd (first_binds n hP bc nc cs b (ns + (bNames bl).length) (sc ++ bNames bl) bl hN.sb hN.wb (by omega) ab cb K K xb W3 (HO.out.1.later HE.out.1) HE.out.2 (HO.out.2.2.2.1.move fun g hg lt => ⟨hg, HE.out.1.block g lt⟩) (HO.out.2.2.2.2.2.move fun g hg lt => ⟨hg, HE.out.1.block g lt⟩))
      go_wp2_with fail
      refine HF1.out.mono ?_
      rintro e w4 ⟨rfl, hb4⟩
      have HB4 := Hd (Ai (onB' HE.out.1 hb4) (HE.out.2.later hb4))
      have y5 := later' hb4 x5
      have y0 := later' hb4 s0
      have y1 := later' hb4 s1
      clear hb4 HF1 s0 s1 x5 x6
      cases hfo : scBs cs (sc ++ bNames bl) bl with
      | some fo =>
        obtain ⟨er, nn⟩ := fo
        have HT2 := Hd hfo
        unfold vErr
        clear hfo
        go_wp2_with fail
        go_ret
        exact ⟨by rw [HT.out, HT2.out]; rfl, HB4.out.1⟩
      | none =>
        have HT2 := Hd hfo
        unfold vErr
        clear hfo
        have HF2 := Hd (first_exprs n hP bc nc cs b (ns + (bNames bl).length) (sc ++ bNames bl) ks hN.sk hN.wk (by omega) ak ck K xk w4 (HO.out.1.later HB4.out.1) HB4.out.2 (HO.out.2.2.1.move fun g hg lt => ⟨hg, HB4.out.1.block g lt⟩) (HO.out.2.2.2.2.1.move fun g hg lt => ⟨hg, HB4.out.1.block g lt⟩))
        go_wp2_with fail
        refine HF2.out.mono ?_
        rintro e w5 ⟨rfl, hb5⟩
        have HB5 := Hd (onB' HB4.out.1 hb5)
        clear hb5 HF2
        go_wp2_with fail
        go_ret
        exact ⟨by rw [HT.out, HT2.out]; rfl, HB5.out⟩
    · clear hb1 hb2 H12 HWw HNm HU ho k0 k1 d0 d1 d4 d5 r0 r1 r6
      have h1s := H1.size
      have h0s := HX.out.1.size
      have hg := Gt (set_grown w2 W.heap.size 0 (.map (some bc))) (set_grown (w2.setCell ⟨W.heap.size, 0, none⟩ (.map (some bc))) W.heap.size 1 (.map (some b)))
      have HE := Hd (Ai (below_of_new H2 hg (by omega)) (hs.same (hg.block b hs.lt (by simpa using hs.ne q0))))
      have HBy := Hd (show BoxW ((w2.setCell ⟨W.heap.size, 0, none⟩ (.map (some bc))).setCell ⟨W.heap.size, 1, none⟩ (.map (some b))) W.heap.size [.map (some bc), .map (some b)] from (HBz.set 0 (show 0 < 2 by decide) (.map (some bc))).set 1 (show 1 < 2 by decide) (.map (some b)))
      have x5 := hg.cell k5 (by simp; omega)
      have x6 := hg.cell k6 (by simp; omega)
      clear hg HBz
      clear k5 k6 hs
      generalize ((w2.setCell ⟨W.heap.size, 0, none⟩ (.map (some bc))).setCell ⟨W.heap.size, 1, none⟩ (.map (some b))) = W3 at *
      have s0 : W3.cell? ⟨W.heap.size, 0, none⟩ = some (.map (some bc)) := HBy.out.1 0 _ rfl
      have s1 : W3.cell? ⟨W.heap.size, 1, none⟩ = some (.map (some b)) := HBy.out.1 1 _ rfl
      have HF1 := Hd (first_binds n hP bc nc cs b (ns + (bNames bl).length) (sc ++ bNames bl) bl hN.sb hN.wb (by omega) ab cb K K xb W3 (HO.out.1.later HE.out.1) HE.out.2 (HO.out.2.2.2.1.move fun g hg lt => ⟨hg, HE.out.1.block g lt⟩) (HO.out.2.2.2.2.2.move fun g hg lt => ⟨hg, HE.out.1.block g lt⟩))
      go_wp2_with fail
      refine HF1.out.mono ?_
      rintro e w4 ⟨rfl, hb4⟩
      have HB4 := Hd (Ai (onB' HE.out.1 hb4) (HE.out.2.later hb4))
      have y5 := later' hb4 x5
      have y0 := later' hb4 s0
      have y1 := later' hb4 s1
      clear hb4 HF1 s0 s1 x5 x6
      cases hfo : scBs cs (sc ++ bNames bl) bl with
      | some fo =>
        obtain ⟨er, nn⟩ := fo
        have HT2 := Hd hfo
        unfold vErr
        clear hfo
        go_wp2_with fail
        go_ret
        exact ⟨by rw [HT.out, HT2.out]; rfl, HB4.out.1⟩
      | none =>
        have HT2 := Hd hfo
        unfold vErr
        clear hfo
        have HF2 := Hd (first_exprs n hP bc nc cs b (ns + (bNames bl).length) (sc ++ bNames bl) ks hN.sk hN.wk (by omega) ak ck K xk w4 (HO.out.1.later HB4.out.1) HB4.out.2 (HO.out.2.2.1.move fun g hg lt => ⟨hg, HB4.out.1.block g lt⟩) (HO.out.2.2.2.2.1.move fun g hg lt => ⟨hg, HB4.out.1.block g lt⟩))
        go_wp2_with fail
        refine HF2.out.mono ?_
        rintro e w5 ⟨rfl, hb5⟩
        have HB5 := Hd (onB' HB4.out.1 hb5)
        clear hb5 HF2
        go_wp2_with fail
        go_ret
        exact ⟨by rw [HT.out, HT2.out]; rfl, HB5.out⟩
theorem plc_step (n : Nat) (hP : PlcC n) : PlcC (n + 1) := by
  intro x K w bc nc cs bs ns sc k nm f u ap np cp ak nk ck ab nb cb aa na ca hz hw hn hc hs ht
  obtain ⟨ps, ks, bl, al, xk, xb, xa, rfl, rfl, rfl, rfl, rfl, hp, hk, hb, ha, tk, tb, ta⟩ := ht.opened
  have hN := NodeOk.of hz hw hn
  have hwt := hN.wt
  clear hz hw hn ht
  by_cases g1 : k = 1
  · have hsc : scE cs sc (.mk k nm f u ps ks bl al) = hasF sc nm := by unfold scE; rw [if_pos g1]
    rw [hsc, g1]
    have hx1 := (Below.refl w.heap.size w).alloc Nr (.cells #[.map (some bc), .map (some bs)] 113)
    have hx := hx1.alloc hx1.size (.cells #[.int .i64 1, .string (tx nm), .bool f, .int .u64 u, .slice ap ps.length cp, .slice ak ks.length ck, .slice ab bl.length cb, .slice aa al.length ca] 46)
    have hB1 := (BoxW.alloc w #[.map (some bc), .map (some bs)] 113).below (Br.alloc Nr (.cells #[.int .i64 1, .string (tx nm), .bool f, .int .u64 u, .slice ap ps.length cp, .slice ak ks.length ck, .slice ab bl.length cb, .slice aa al.length ca] 46))
    have hB2 := BoxW.alloc (w.alloc (.cells #[.map (some bc), .map (some bs)] 113)) #[.int .i64 1, .string (tx nm), .bool f, .int .u64 u, .slice ap ps.length cp, .slice ak ks.length ck, .slice ab bl.length cb, .slice aa al.length ca] 46
    rw [show (w.alloc (.cells #[.map (some bc), .map (some bs)] 113)).heap.size = w.heap.size + 1 by simp] at hB2
    have HF := Hd (nfault_any bs ns sc nm (hN.wn (Or.inl g1)).2 ((w.alloc (.cells #[.map (some bc), .map (some bs)] 113)).alloc (.cells #[.int .i64 1, .string (tx nm), .bool f, .int .u64 u, .slice ap ps.length cp, .slice ak ks.length ck, .slice ab bl.length cb, .slice aa al.length ca] 46)) (hs.later hx))
    have HX := Hd hx
    have hmf := func_made
    clear hx hx1 hB1 hB2 hc hs hp hk hb ha tk tb ta
    go_enter Tryd.func92, Tryd.ntmps92
    go_wp2_with fail
    refine HF.out.mono ?_
    rintro e w3 ⟨rfl, hb3⟩
    have HB3 := Hd (onB' HX.out hb3)
    clear hb3 HF
    go_wp2_with fail
    go_ret
    exact ⟨rfl, HB3.out⟩
  by_cases g2 : k = 2
  · have hsc : scE cs sc (.mk k nm f u ps ks bl al) = (hasF cs nm).or (scEs cs sc ks) := by unfold scE; rw [if_neg g1, if_pos g2]
    rw [hsc, g2]
    have hx1 := (Below.refl w.heap.size w).alloc Nr (.cells #[.map (some bc), .map (some bs)] 113)
    have hx := hx1.alloc hx1.size (.cells #[.int .i64 2, .string (tx nm), .bool f, .int .u64 u, .slice ap ps.length cp, .slice ak ks.length ck, .slice ab bl.length cb, .slice aa al.length ca] 46)
    have hB1 := (BoxW.alloc w #[.map (some bc), .map (some bs)] 113).below (Br.alloc Nr (.cells #[.int .i64 2, .string (tx nm), .bool f, .int .u64 u, .slice ap ps.length cp, .slice ak ks.length ck, .slice ab bl.length cb, .slice aa al.length ca] 46))
    have hB2 := BoxW.alloc (w.alloc (.cells #[.map (some bc), .map (some bs)] 113)) #[.int .i64 2, .string (tx nm), .bool f, .int .u64 u, .slice ap ps.length cp, .slice ak ks.length ck, .slice ab bl.length cb, .slice aa al.length ca] 46
    rw [show (w.alloc (.cells #[.map (some bc), .map (some bs)] 113)).heap.size = w.heap.size + 1 by simp] at hB2
    have HF := Hd (nfault_any bc nc cs nm (hN.wn (Or.inr (Or.inl g2))).2 ((w.alloc (.cells #[.map (some bc), .map (some bs)] 113)).alloc (.cells #[.int .i64 2, .string (tx nm), .bool f, .int .u64 u, .slice ap ps.length cp, .slice ak ks.length ck, .slice ab bl.length cb, .slice aa al.length ca] 46)) (hc.later hx))
    have HX := Hd (Ai hx (Ai hB1 hB2))
    have HO := Hd (Ai hc (Ai hs (Ai hk tk)))
    have hmf := func_made
    clear hx hx1 hB1 hB2 hc hs hp hk hb ha tk tb ta
    go_enter Tryd.func92, Tryd.ntmps92
    go_wp2_with fail
    refine HF.out.mono ?_
    rintro e w2 ⟨rfl, hb2⟩
    have HB := Hd (Ai (onB' HX.out.1 hb2) (Ai (HX.out.2.1.below hb2) (HX.out.2.2.below hb2)))
    clear hb2 HF HX
    cases hfo : hasF cs nm with
    | some fo =>
      obtain ⟨er, nn⟩ := fo
      have HT := Hd hfo
      unfold vErr
      clear hfo
      go_wp2_with fail
      go_ret
      exact ⟨by rw [HT.out]; rfl, HB.out.1⟩
    | none =>
      have HT := Hd hfo
      unfold vErr
      clear hfo
      have r0 : w2.cell? ⟨w.heap.size, 0, none⟩ = some (.map (some bc)) := HB.out.2.1.1 0 _ rfl
      have r1 : w2.cell? ⟨w.heap.size, 1, none⟩ = some (.map (some bs)) := HB.out.2.1.1 1 _ rfl
      have q5 : w2.cell? ⟨w.heap.size + 1, 5, none⟩ = some (.slice ak ks.length ck) := HB.out.2.2.1 5 _ rfl
      have HF2 := Hd (first_exprs n hP bc nc cs bs ns sc ks hN.sk hN.wk (by omega) ak ck K xk w2 (HO.out.1.later HB.out.1) (HO.out.2.1.later HB.out.1) (HO.out.2.2.1.move fun g hg lt => ⟨hg, HB.out.1.block g lt⟩) (HO.out.2.2.2.move fun g hg lt => ⟨hg, HB.out.1.block g lt⟩))
      go_wp2_with fail
      refine HF2.out.mono ?_
      rintro e w3 ⟨rfl, hb3⟩
      have HB3 := Hd (onB' HB.out.1 hb3)
      clear hb3 HF2
      go_wp2_with fail
      go_ret
      exact ⟨by rw [HT.out]; rfl, HB3.out⟩
  by_cases g6 : k = 6
  · have hsc : scE cs sc (.mk k nm f u ps ks bl al) = (twF (bNames bl)).or ((scBs cs (sc ++ bNames bl) bl).or (scEs cs (sc ++ bNames bl) ks)) := by unfold scE; rw [if_neg g1, if_neg g2, if_pos g6]
    rw [hsc, g6]
    rw [g6] at hN
    have hx1 := (Below.refl w.heap.size w).alloc Nr (.cells #[.map (some bc), .map (some bs)] 113)
    have hx := hx1.alloc hx1.size (.cells #[.int .i64 6, .string (tx nm), .bool f, .int .u64 u, .slice ap ps.length cp, .slice ak ks.length ck, .slice ab bl.length cb, .slice aa al.length ca] 46)
    have hB1 := (BoxW.alloc w #[.map (some bc), .map (some bs)] 113).below (Br.alloc Nr (.cells #[.int .i64 6, .string (tx nm), .bool f, .int .u64 u, .slice ap ps.length cp, .slice ak ks.length ck, .slice ab bl.length cb, .slice aa al.length ca] 46))
    have hB2 := BoxW.alloc (w.alloc (.cells #[.map (some bc), .map (some bs)] 113)) #[.int .i64 6, .string (tx nm), .bool f, .int .u64 u, .slice ap ps.length cp, .slice ak ks.length ck, .slice ab bl.length cb, .slice aa al.length ca] 46
    rw [show (w.alloc (.cells #[.map (some bc), .map (some bs)] 113)).heap.size = w.heap.size + 1 by simp] at hB2
    have HF := Hd (plet_any n hP bc nc cs bs ns sc 6 nm f u ps ks bl al ap cp ak ck ab cb aa ca hN K xk xb ((w.alloc (.cells #[.map (some bc), .map (some bs)] 113)).alloc (.cells #[.int .i64 6, .string (tx nm), .bool f, .int .u64 u, .slice ap ps.length cp, .slice ak ks.length ck, .slice ab bl.length cb, .slice aa al.length ca] 46)) (hc.later hx) (hs.later hx) (hk.move fun g hg lt => ⟨hg, hx.block g lt⟩) (hb.move fun g hg lt => ⟨hg, hx.block g lt⟩) (tk.move fun g hg lt => ⟨hg, hx.block g lt⟩) (tb.move fun g hg lt => ⟨hg, hx.block g lt⟩))
    have HX := Hd hx
    have hmf := func_made
    clear hx hx1 hB1 hB2 hc hs hp hk hb ha tk tb ta
    go_enter Tryd.func92, Tryd.ntmps92
    go_wp2_with fail
    refine HF.out.mono ?_
    rintro e w3 ⟨rfl, hb3⟩
    have HB3 := Hd (onB' HX.out hb3)
    clear hb3 HF
    go_wp2_with fail
    go_ret
    exact ⟨rfl, HB3.out⟩
  by_cases g7 : k = 7
  · have hsc : scE cs sc (.mk k nm f u ps ks bl al) = (scEs cs sc ks).or (scAs cs sc al) := by unfold scE; rw [if_neg g1, if_neg g2, if_neg g6, if_pos g7]
    rw [hsc, g7]
    rw [g7] at hN
    have hx1 := (Below.refl w.heap.size w).alloc Nr (.cells #[.map (some bc), .map (some bs)] 113)
    have hx := hx1.alloc hx1.size (.cells #[.int .i64 7, .string (tx nm), .bool f, .int .u64 u, .slice ap ps.length cp, .slice ak ks.length ck, .slice ab bl.length cb, .slice aa al.length ca] 46)
    have hB1 := (BoxW.alloc w #[.map (some bc), .map (some bs)] 113).below (Br.alloc Nr (.cells #[.int .i64 7, .string (tx nm), .bool f, .int .u64 u, .slice ap ps.length cp, .slice ak ks.length ck, .slice ab bl.length cb, .slice aa al.length ca] 46))
    have hB2 := BoxW.alloc (w.alloc (.cells #[.map (some bc), .map (some bs)] 113)) #[.int .i64 7, .string (tx nm), .bool f, .int .u64 u, .slice ap ps.length cp, .slice ak ks.length ck, .slice ab bl.length cb, .slice aa al.length ca] 46
    rw [show (w.alloc (.cells #[.map (some bc), .map (some bs)] 113)).heap.size = w.heap.size + 1 by simp] at hB2
    have HF := Hd (pchoice_any n hP bc nc cs bs ns sc 7 nm f u ps ks bl al ap cp ak ck ab cb aa ca hN K xk xa ((w.alloc (.cells #[.map (some bc), .map (some bs)] 113)).alloc (.cells #[.int .i64 7, .string (tx nm), .bool f, .int .u64 u, .slice ap ps.length cp, .slice ak ks.length ck, .slice ab bl.length cb, .slice aa al.length ca] 46)) (hc.later hx) (hs.later hx) (hk.move fun g hg lt => ⟨hg, hx.block g lt⟩) (ha.move fun g hg lt => ⟨hg, hx.block g lt⟩) (tk.move fun g hg lt => ⟨hg, hx.block g lt⟩) (ta.move fun g hg lt => ⟨hg, hx.block g lt⟩))
    have HX := Hd hx
    have hmf := func_made
    clear hx hx1 hB1 hB2 hc hs hp hk hb ha tk tb ta
    go_enter Tryd.func92, Tryd.ntmps92
    go_wp2_with fail
    refine HF.out.mono ?_
    rintro e w3 ⟨rfl, hb3⟩
    have HB3 := Hd (onB' HX.out hb3)
    clear hb3 HF
    go_wp2_with fail
    go_ret
    exact ⟨rfl, HB3.out⟩
  by_cases g8 : k = 8
  · have hsc : scE cs sc (.mk k nm f u ps ks bl al) = (twF ps).or (scEs cs (sc ++ ps) ks) := by unfold scE; rw [if_neg g1, if_neg g2, if_neg g6, if_neg g7, if_pos g8]
    rw [hsc, g8]
    have hx1 := (Below.refl w.heap.size w).alloc Nr (.cells #[.map (some bc), .map (some bs)] 113)
    have hx := hx1.alloc hx1.size (.cells #[.int .i64 8, .string (tx nm), .bool f, .int .u64 u, .slice ap ps.length cp, .slice ak ks.length ck, .slice ab bl.length cb, .slice aa al.length ca] 46)
    have hB1 := (BoxW.alloc w #[.map (some bc), .map (some bs)] 113).below (Br.alloc Nr (.cells #[.int .i64 8, .string (tx nm), .bool f, .int .u64 u, .slice ap ps.length cp, .slice ak ks.length ck, .slice ab bl.length cb, .slice aa al.length ca] 46))
    have hB2 := BoxW.alloc (w.alloc (.cells #[.map (some bc), .map (some bs)] 113)) #[.int .i64 8, .string (tx nm), .bool f, .int .u64 u, .slice ap ps.length cp, .slice ak ks.length ck, .slice ab bl.length cb, .slice aa al.length ca] 46
    rw [show (w.alloc (.cells #[.map (some bc), .map (some bs)] 113)).heap.size = w.heap.size + 1 by simp] at hB2
    have HF := Hd (bodies_any n hP bc nc cs bs ns sc ps ks hN.wp (fun x hx => ⟨hN.sk x hx, hN.wk x hx⟩) (by omega) ap cp ak ck K K K xk ((w.alloc (.cells #[.map (some bc), .map (some bs)] 113)).alloc (.cells #[.int .i64 8, .string (tx nm), .bool f, .int .u64 u, .slice ap ps.length cp, .slice ak ks.length ck, .slice ab bl.length cb, .slice aa al.length ca] 46)) (hc.later hx) (hs.later hx) (hp.move fun g hg lt => ⟨hg, hx.block g lt⟩) (hk.move fun g hg lt => ⟨hg, hx.block g lt⟩) (tk.move fun g hg lt => ⟨hg, hx.block g lt⟩))
    have HX := Hd hx
    have hmf := func_made
    clear hx hx1 hB1 hB2 hc hs hp hk hb ha tk tb ta
    go_enter Tryd.func92, Tryd.ntmps92
    go_wp2_with fail
    refine HF.out.mono ?_
    rintro e w3 ⟨rfl, hb3⟩
    have HB3 := Hd (onB' HX.out hb3)
    clear hb3 HF
    go_wp2_with fail
    go_ret
    exact ⟨rfl, HB3.out⟩
  · have hsc : scE cs sc (.mk k nm f u ps ks bl al) = scEs cs sc ks := by unfold scE; rw [if_neg g1, if_neg g2, if_neg g6, if_neg g7, if_neg g8]
    rw [hsc]
    have f1 : (k == 1) = false := by simpa using g1
    have f2 : (k == 2) = false := by simpa using g2
    have f6 : (k == 6) = false := by simpa using g6
    have f7 : (k == 7) = false := by simpa using g7
    have f8 : (k == 8) = false := by simpa using g8
    have hx1 := (Below.refl w.heap.size w).alloc Nr (.cells #[.map (some bc), .map (some bs)] 113)
    have hx := hx1.alloc hx1.size (.cells #[.int .i64 k, .string (tx nm), .bool f, .int .u64 u, .slice ap ps.length cp, .slice ak ks.length ck, .slice ab bl.length cb, .slice aa al.length ca] 46)
    have hB1 := (BoxW.alloc w #[.map (some bc), .map (some bs)] 113).below (Br.alloc Nr (.cells #[.int .i64 k, .string (tx nm), .bool f, .int .u64 u, .slice ap ps.length cp, .slice ak ks.length ck, .slice ab bl.length cb, .slice aa al.length ca] 46))
    have hB2 := BoxW.alloc (w.alloc (.cells #[.map (some bc), .map (some bs)] 113)) #[.int .i64 k, .string (tx nm), .bool f, .int .u64 u, .slice ap ps.length cp, .slice ak ks.length ck, .slice ab bl.length cb, .slice aa al.length ca] 46
    rw [show (w.alloc (.cells #[.map (some bc), .map (some bs)] 113)).heap.size = w.heap.size + 1 by simp] at hB2
    have HF := Hd (first_exprs n hP bc nc cs bs ns sc ks hN.sk hN.wk (by omega) ak ck K xk ((w.alloc (.cells #[.map (some bc), .map (some bs)] 113)).alloc (.cells #[.int .i64 k, .string (tx nm), .bool f, .int .u64 u, .slice ap ps.length cp, .slice ak ks.length ck, .slice ab bl.length cb, .slice aa al.length ca] 46)) (hc.later hx) (hs.later hx) (hk.move fun g hg lt => ⟨hg, hx.block g lt⟩) (tk.move fun g hg lt => ⟨hg, hx.block g lt⟩))
    have HX := Hd hx
    have hmf := func_made
    clear hx hx1 hB1 hB2 hc hs hp hk hb ha tk tb ta
    go_enter Tryd.func92, Tryd.ntmps92
    go_wp2_with fail
    refine HF.out.mono ?_
    rintro e w3 ⟨rfl, hb3⟩
    have HB3 := Hd (onB' HX.out hb3)
    clear hb3 HF
    go_wp2_with fail
    go_ret
    exact ⟨rfl, HB3.out⟩
theorem plc_all : ∀ n, PlcC n
  | 0 => by
    intro x K w bc nc cs bs ns sc k nm f u ap np cp ak nk ck ab nb cb aa na ca hz
    obtain ⟨k, n, f, x, ps, ks, bs, al⟩ := x
    simp only [Ex.mk.sizeOf_spec] at hz
    omega
  | n + 1 => plc_step n (plc_all n)
structure ModAt (W : World) (K : Nat → Prop) (m : Md) (ac : Option Addr) (cc : Nat) (ab : Option Addr) (cb : Nat) : Prop where
  dr : RowAt W K 36 2 (.slice ac m.1.length cc) m.1.length (declV m.1)
  br : ∃ xb, RowAt W K 48 10 (.slice ab m.2.length cb) m.2.length xb ∧ BndsAt W K m.2 xb
theorem ModAt.below {W W' : World} {K : Nat → Prop} {m : Md} {ac : Option Addr} {cc : Nat} {ab : Option Addr} {cb : Nat} (h : ModAt W K m ac cc ab cb) (hb : Below W.heap.size W W') : ModAt W' K m ac cc ab cb := by
  obtain ⟨xb, h1, h2⟩ := h.br
  exact ⟨h.dr.move fun g hk lt => ⟨hk, hb.block g lt⟩, xb, h1.move fun g hk lt => ⟨hk, hb.block g lt⟩, h2.move fun g hk lt => ⟨hk, hb.block g lt⟩⟩
structure MdOk (m : Md) : Prop where
  wd : ∀ d, d ∈ m.1 → NmOk d.1
  wb : ∀ b, b ∈ m.2 → wB b
  wt : 10 + m.1.length + (m.2.length + sumN nB m.2) ≤ 100000
theorem modfault_any (m : Md) (hm : MdOk m) (ac : Option Addr) (cc : Nat) (ab : Option Addr) (cb : Nat) (K : Nat → Prop) (w : World) (h : ModAt w K m ac cc ab cb) :
    Calls Tryd.prog 20 #[.agg #[.slice ac m.1.length cc, .slice ab m.2.length cb]] w fun e w' => e = .returned (vErr (scM m)) ∧ Below w.heap.size w w' := by
  have hx := (Below.refl w.heap.size w).alloc Nr (.cells #[.slice ac m.1.length cc, .slice ab m.2.length cb] 26)
  have HX := Hd (Ai hx (BoxW.alloc w #[.slice ac m.1.length cc, .slice ab m.2.length cb] 26))
  have HO := Hd h
  clear h hx
  have hmm := @run_makeMap Tryd.prog
  have hmf := func_made
  have hwt := hm.wt
  have hlb := bNames_len m.2
  have hlc : (conNames m).length = 4 + m.1.length := by simp [conNames, four]; omega
  have hcl : ∀ x, x ∈ conNames m → x.length ≤ 100000 := fun x hx => by
    obtain ⟨d, hd, rfl⟩ := List.mem_map.1 hx
    rcases List.mem_append.1 hd with hd | hd
    · simp only [four, List.mem_cons, List.not_mem_nil, or_false] at hd
      rcases hd with rfl | rfl | rfl | rfl <;> decide
    · exact (hm.wd d hd).2
  have hbl : ∀ x, x ∈ bNames m.2 → x.length ≤ 100000 := fun x hx => by
    obtain ⟨b, hb, rfl⟩ := List.mem_map.1 hx
    exact (hm.wb b hb).1.2
  have HCL := Hd (Ai hcl hbl)
  have HLB := Hd (Ai hlb hlc)
  clear hcl hbl hlb hlc
  go_enter Tryd.func20, Tryd.ntmps20
  go_upto_region 1 with fail
  generalize (w.alloc (.cells #[.slice ac m.1.length cc, .slice ab m.2.length cb] 26)) = W at *
  have d0 : W.cell? ⟨w.heap.size, 0, none⟩ = some (.slice ac m.1.length cc) := HX.out.2.1 0 _ rfl
  have d1 : W.cell? ⟨w.heap.size, 1, none⟩ = some (.slice ab m.2.length cb) := HX.out.2.1 1 _ rfl
  have hq0 : w.heap.size < W.heap.size := Bl d0
  have hbm : Below W.heap.size W (W.alloc (.map #[] 0)) := Br.alloc Nr _
  have HM1 := Hd (Ai hbm (nset_made W))
  have HC := Hd (pcons_any m.1 (fun d hd => (hm.wd d hd).2) ac cc (.slice ab m.2.length cb) K (W.alloc (.map #[] 0)) (by omega) (HO.out.dr.move fun g hk lt => ⟨hk, (onB' HX.out.1 hbm).block g lt⟩) ⟨_, _, _, rfl⟩)
  clear hbm
  go_wp2_with fail
  refine HC.out.mono ?_
  rintro e w1 ⟨⟨v, rfl, ho⟩, hb1⟩
  obtain ⟨ds, hds⟩ : ∃ ds : List (Nm × Int), ds = four ++ m.1 := ⟨_, rfl⟩
  have hdl : 4 + m.1.length = ds.length := by rw [hds]; simp [four]; omega
  rw [hdl, ← hds] at ho
  have HDS := Hd (Ai hds hdl)
  clear hds hdl
  obtain ⟨a1, c1, rfl, -⟩ := own_shape ho
  have HB1 := Hd (onB' HM1.out.1 hb1)
  have HN1 := Hd (cnames_of_any ds a1 c1 (fun _ => True) w1 (by have := HDS.out.2; omega) (RowAt.of ho (fun _ _ => trivial)))
  have HS1 := Hd (HM1.out.2.later hb1)
  clear hb1 ho HC HM1
  go_wp2_with fail
  refine HN1.out.mono ?_
  rintro e w2 ⟨⟨v, rfl, ho⟩, hb2⟩
  rw [show ds.length = (conNames m).length by rw [HDS.out.1]; exact (List.length_map ..).symm, show ds.map (·.1) = conNames m by rw [HDS.out.1]; rfl] at ho
  obtain ⟨a2, c2, rfl, -⟩ := own_shape ho
  have HB2 := Hd (onB' HB1.out hb2)
  have HW1 := Hd (with_any W.heap.size 0 [] (conNames m) HCL.out.1 (by have := HLB.out.2; omega) a2 c2 (fun _ => True) w2 (HS1.out.later hb2) (RowAt.of ho (fun _ _ => trivial)))
  clear hb2 ho HN1 HB1 HS1
  go_wp2_with fail
  refine HW1.out.mono ?_
  rintro e w3 ⟨hw, hb3⟩
  have HB3 := Hd (onB' HB2.out hb3)
  have HS := Hd hw
  clear hb3 hw HW1 HB2
  cases htw : twF (conNames m) with
  | some fo =>
    have h := HS.out
    unfold WithSaid at h
    rw [htw] at h
    subst h
    have HT := Hd htw
    obtain ⟨er, nn⟩ := fo
    unfold vErr
    clear htw HS
    go_wp2_with fail
    go_ret
    exact ⟨by unfold scM; rw [HT.out]; rfl, onB' HX.out.1 HB3.out⟩
  | none =>
    have h := HS.out
    unfold WithSaid at h
    rw [htw] at h
    obtain ⟨bc, rfl, hs⟩ := h
    rw [List.nil_append, Nat.zero_add] at hs
    have HT := Hd htw
    have HSc := Hd hs
    have e1 := later' HB3.out d1
    have hq1 : w.heap.size < w3.heap.size := Bl e1
    have hbm : Below w3.heap.size w3 (w3.alloc (.map #[] 0)) := Br.alloc Nr _
    have HM3 := Hd (Ai hbm (Ai (nset_made w3) (onB' HX.out.1 (onB' HB3.out hbm))))
    obtain ⟨xb, hbr, hbt⟩ := HO.out.br
    have HBx := Hd (Ai hbr hbt)
    have HN3 := Hd (names_of_any m.2 ab cb K K xb (w3.alloc (.map #[] 0)) (by omega) (hbr.move fun g hk lt => ⟨hk, HM3.out.2.2.block g lt⟩) (hbt.move fun g hk lt => ⟨hk, HM3.out.2.2.block g lt⟩))
    clear htw HS hs hbm hbr hbt
    go_wp2_with fail
    refine HN3.out.mono ?_
    rintro e w4 ⟨⟨v, rfl, ho⟩, hb4⟩
    rw [← HLB.out.1] at ho
    obtain ⟨a4, c4, rfl, -⟩ := own_shape ho
    have HB4 := Hd (onB' HM3.out.1 hb4)
    have HW4 := Hd (with_any w3.heap.size 0 [] (bNames m.2) HCL.out.2 (by have := HLB.out.1; omega) a4 c4 (fun _ => True) w4 (HM3.out.2.1.later hb4) (RowAt.of ho (fun _ _ => trivial)))
    clear hb4 ho HN3 HM3
    go_wp2_with fail
    refine HW4.out.mono ?_
    rintro e w5 ⟨hw, hb5⟩
    have HB5 := Hd (onB' HB4.out hb5)
    have HS := Hd hw
    clear hb5 hw HW4 HB4
    cases htw : twF (bNames m.2) with
    | some fo =>
      have h := HS.out
      unfold WithSaid at h
      rw [htw] at h
      subst h
      have HT2 := Hd htw
      obtain ⟨er, nn⟩ := fo
      unfold vErr
      clear htw HS
      go_wp2_with fail
      go_ret
      exact ⟨by unfold scM; rw [HT.out, HT2.out]; rfl, onB' HX.out.1 (onB' HB3.out HB5.out)⟩
    | none =>
      have h := HS.out
      unfold WithSaid at h
      rw [htw] at h
      obtain ⟨bs, rfl, hs⟩ := h
      rw [List.nil_append, Nat.zero_add] at hs
      have HT2 := Hd htw
      have HSs := Hd hs
      have e2 := later' HB5.out e1
      have hlk : (Instr.lookup 103 (.map (some bs)) (.string ⟨#[109, 97, 105, 110]⟩) false).run Tryd.prog w5 = .ok (.bool (decide (mainL ∈ bNames m.2))) w5 := hs.look mainL (by decide)
      have HB := Hd (onB' HX.out.1 (onB' HB3.out HB5.out))
      clear htw HS hs e1
      by_cases gm : mainL ∈ bNames m.2
      · rw [decide_eq_true gm] at hlk
        have HF := Hd (first_binds _ (plc_all _) bc (conNames m).length (conNames m) bs (bNames m.2).length (bNames m.2) m.2 (fun y hy => sumN_mem (fun b : Bnd => SizeOf.sizeOf b.2.2) hy) hm.wb (by have := HLB.out.1; omega) ab cb K K xb w5 (HSc.out.later HB5.out) HSs.out (HBx.out.1.move fun g hk lt => ⟨hk, HB.out.block g lt⟩) (HBx.out.2.move fun g hk lt => ⟨hk, HB.out.block g lt⟩))
        go_wp2_with fail
        refine HF.out.mono ?_
        rintro e w6 ⟨rfl, hb6⟩
        have HB6 := Hd (onB' HB.out hb6)
        clear hb6 HF
        go_wp2_with fail
        go_ret
        exact ⟨by unfold scM; rw [HT.out, HT2.out, if_pos gm]; rfl, HB6.out⟩
      · rw [decide_eq_false gm] at hlk
        go_wp2_with fail
        go_ret
        exact ⟨by unfold scM; rw [HT.out, HT2.out, if_neg gm]; rfl, HB.out⟩
end Go.Proofs.YtdjcdecbmeickaaDoor
namespace Go.Proofs.YtdjcdecbmeickaaDoor
set_option maxHeartbeats 64000000
set_option maxRecDepth 100000
open Go.RowKit Go.Lib Go.Extern.Stop Go.Stop Go.Extern
theorem as_nil (t : Value) (w : World) :
    Calls Tryd.prog 19 #[.nilIface, t] w fun e w' => e = .returned (.bool false) ∧ w' = w := by
  go_enter Tryd.func19, Tryd.ntmps19
  go_wp2_with fail
  go_ret
  exact ⟨rfl, rfl⟩
theorem asValueOfP (t : Addr) (w : World) : (ReflectliteValue.unpack (.iface 64 (.pointer (some t)))).run Tryd.prog w
    = .ok (.agg #[.pointer (some ⟨1, 64, none⟩), .pointer (some ⟨w.heap.size, 0, none⟩), .int .u64 150]) (w.alloc (.cells #[.pointer (some t)] 64)) := by kernel_rfl
theorem asTypeP (a : Addr) (w : World) : (ReflectliteValue.methodAny (ReflectliteValue.valueError "reflectlite.Value.Type" 0) (fun t _ _ _ => ReflectliteType.toType t) #[.agg #[.pointer (some ⟨1, 64, none⟩), .pointer (some a), .int .u64 150]]).run Tryd.prog w
    = .ok (.iface 135 (.agg #[.pointer (some ⟨1, 64, none⟩)])) w := by kernel_rfl
theorem asMethodKind (h : Value) (w : World) : (Go.method 300 135 (.agg #[h]) "Kind").run Tryd.prog w = .ok (116, h) w := by kernel_rfl
theorem asKindP (w : World) : ((ReflectliteType.abiMethod fun t => (fun a : Nat => Value.int IntKind.u8 (a : Int)) <$> Rtype.kind t) #[.pointer (some ⟨1, 64, none⟩)]).run Tryd.prog w = .ok (.int .u8 22) w := by kernel_rfl
theorem asKindS (w : World) : ((ReflectliteType.abiMethod fun t => (fun a : Nat => Value.int IntKind.u8 (a : Int)) <$> Rtype.kind t) #[.pointer (some ⟨1, 59, none⟩)]).run Tryd.prog w = .ok (.int .u8 25) w := by kernel_rfl
theorem as_rlm (z : Sem Value) (f : TypeId → Addr → Nat → Nat → Sem Value) (v : Value) :
    ReflectliteValue.method z f #[v] = (do match ← ReflectliteValue.parts v with | none => z | some (t, a, fl) => f t a fl (fl % 32)) := rfl
theorem asPartsP (a : Addr) (w : World) : (ReflectliteValue.parts (.agg #[.pointer (some ⟨1, 64, none⟩), .pointer (some a), .int .u64 150])).run Tryd.prog w = .ok (some (64, a, 150)) w := by kernel_rfl
theorem asIsNilP (a p : Addr) (W : World) (ha : W.cell? a = some (.pointer (some p))) :
    (ReflectliteValue.method (ReflectliteValue.valueError "reflectlite.Value.IsNil" 0) ReflectliteValue.isNil #[.agg #[.pointer (some ⟨1, 64, none⟩), .pointer (some a), .int .u64 150]]).run Tryd.prog W = .ok (.bool false) W := by
  rw [as_rlm]
  simp only [Sem.run_bind, asPartsP, Result.andThen]
  simp [ReflectliteValue.isNil, loadVar, isAgg, underlying, Tryd.underlying64, ha, Result.andThen]
theorem asMethodElem (h : Value) (w : World) : (Go.method 300 135 (.agg #[h]) "Elem").run Tryd.prog w = .ok (126, .agg #[h]) w := by kernel_rfl
theorem asMethodImpl (h : Value) (w : World) : (Go.method 300 135 (.agg #[h]) "Implements").run Tryd.prog w = .ok (127, .agg #[h]) w := by kernel_rfl
theorem asMethodAssn (h : Value) (w : World) : (Go.method 300 135 (.agg #[h]) "AssignableTo").run Tryd.prog w = .ok (124, .agg #[h]) w := by kernel_rfl
theorem asElemP (w : World) : (ReflectliteType.method ReflectliteType.elem #[.agg #[.pointer (some ⟨1, 64, none⟩)]]).run Tryd.prog w = .ok (.iface 135 (.agg #[.pointer (some ⟨1, 59, none⟩)])) w := by kernel_rfl
theorem asImplS (w : World) : (ReflectliteType.relation "Implements" ReflectliteType.implements_ #[.agg #[.pointer (some ⟨1, 59, none⟩)], .iface 135 (.agg #[.pointer (some ⟨1, 62, none⟩)])]).run Tryd.prog w = .ok (.bool true) w := by kernel_rfl
theorem asTypeOfS (v : Value) (w : World) : (ReflectliteType.typeOf #[.iface 59 v]).run Tryd.prog w = .ok (.iface 135 (.agg #[.pointer (some ⟨1, 59, none⟩)])) w := by kernel_rfl
theorem asAssnS (w : World) : (ReflectliteType.relation "AssignableTo" ReflectliteType.assignableTo #[.agg #[.pointer (some ⟨1, 59, none⟩)], .iface 135 (.agg #[.pointer (some ⟨1, 59, none⟩)])]).run Tryd.prog w = .ok (.bool true) w := by kernel_rfl
theorem asValueOfS (x : Int) (s : ByteArray) (w : World) : (ReflectliteValue.unpack (.iface 59 (.agg #[.int .i64 x, .string s]))).run Tryd.prog w
    = .ok (.agg #[.pointer (some ⟨1, 59, none⟩), .pointer (some ⟨w.heap.size, 0, none⟩), .int .u64 153]) (w.alloc (.cells #[.int .i64 x, .string s] 59)) := by kernel_rfl
theorem asElemOfP (w : World) : (Rtype.elem? 64).run Tryd.prog w = .ok (some 59) w := by kernel_rfl
theorem asMkS (p : Addr) (w : World) : (ReflectliteValue.mk 59 p ReflectliteValue.flagAddr).run Tryd.prog w = .ok (.agg #[.pointer (some ⟨1, 59, none⟩), .pointer (some p), .int .u64 409]) w := by kernel_rfl
theorem asElemVP (a p : Addr) (W : World) (ha : W.cell? a = some (.pointer (some p))) :
    (ReflectliteValue.method (ReflectliteValue.valueError "reflectlite.Value.Elem" 0) ReflectliteValue.elem #[.agg #[.pointer (some ⟨1, 64, none⟩), .pointer (some a), .int .u64 150]]).run Tryd.prog W
      = .ok (.agg #[.pointer (some ⟨1, 59, none⟩), .pointer (some p), .int .u64 409]) W := by
  rw [as_rlm]
  simp only [Sem.run_bind, asPartsP, Result.andThen]
  simp [ReflectliteValue.elem, loadVar, isAgg, underlying, Tryd.underlying64, ha, Result.andThen, asElemOfP, asMkS]
theorem as_rls (v x : Value) : ReflectliteValue.set #[v, x] = (do
    let (some (dst, a, fl), some (src, b, _)) := (← ReflectliteValue.parts v, ← ReflectliteValue.parts x)
      | unsupported (.noEntry "extern/(internal/reflectlite.Value).Set.zeroValue")
    if fl / ReflectliteValue.flagAddr % 2 == 0 then unsupported (.noEntry "extern/(internal/reflectlite.Value).Set.unaddressable")
    let val ← loadVar src b
    if ← Rtype.directlyAssignable dst src then storeVar dst a val
    else if ← Rtype.implements dst src then
      if (← Rtype.kind src) == 20 then
        match val with
        | .nilIface => unsupported (.noEntry "extern/reflectlite: a nil value of one interface type handed on as a value of another")
        | _ => storeVar dst a val
      else storeVar dst a (.iface src val)
    else panicString ("reflectlite.Set: value of type " ++ (← Rtype.spelt src) ++ " is not assignable to type " ++ (← Rtype.spelt dst))
    pure (.tuple #[])) := rfl
theorem asPartsSa (a : Addr) (w : World) : (ReflectliteValue.parts (.agg #[.pointer (some ⟨1, 59, none⟩), .pointer (some a), .int .u64 409])).run Tryd.prog w = .ok (some (59, a, 409)) w := by kernel_rfl
theorem asPartsS (a : Addr) (w : World) : (ReflectliteValue.parts (.agg #[.pointer (some ⟨1, 59, none⟩), .pointer (some a), .int .u64 153])).run Tryd.prog w = .ok (some (59, a, 153)) w := by kernel_rfl
theorem asDirectS (w : World) : (Rtype.directlyAssignable 59 59).run Tryd.prog w = .ok true w := by kernel_rfl
theorem asLoadS (b : Nat) (x : Int) (s : ByteArray) (W : World) (h0 : W.cell? ⟨b, 0, none⟩ = some (.int .i64 x)) (h1 : W.cell? ⟨b, 1, none⟩ = some (.string s)) : (loadVar 59 ⟨b, 0, none⟩).run Tryd.prog W = .ok (.agg #[.int .i64 x, .string s]) W := by
  simp [loadVar, go_sem, Tryd.isAgg59, Tryd.sizeOf59, Result.andThen, h0, h1]
theorem asStoreS (b : Nat) (x : Int) (s : ByteArray) (o0 o1 : Value) (W : World) (h0 : W.cell? ⟨b, 0, none⟩ = some o0) (h1 : W.cell? ⟨b, 1, none⟩ = some o1) (f0 : W.frozen? ⟨b, 0, none⟩ = false) (f1 : W.frozen? ⟨b, 1, none⟩ = false) : (storeVar 59 ⟨b, 0, none⟩ (.agg #[.int .i64 x, .string s])).run Tryd.prog W = .ok () ((W.setCell ⟨b, 0, none⟩ (.int .i64 x)).setCell ⟨b, 1, none⟩ (.string s)) := by
  simp [storeVar, go_sem, Tryd.sizeOf59, Result.andThen, Value.cells, storeCells, Addr.add, h0, h1, f0, f1]
theorem asSetS (tb sb : Nat) (x : Int) (s : ByteArray) (o0 o1 : Value) (W : World) (h0 : W.cell? ⟨sb, 0, none⟩ = some (.int .i64 x)) (h1 : W.cell? ⟨sb, 1, none⟩ = some (.string s)) (t0 : W.cell? ⟨tb, 0, none⟩ = some o0) (t1 : W.cell? ⟨tb, 1, none⟩ = some o1) (f0 : W.frozen? ⟨tb, 0, none⟩ = false) (f1 : W.frozen? ⟨tb, 1, none⟩ = false) :
    (ReflectliteValue.set #[.agg #[.pointer (some ⟨1, 59, none⟩), .pointer (some ⟨tb, 0, none⟩), .int .u64 409], .agg #[.pointer (some ⟨1, 59, none⟩), .pointer (some ⟨sb, 0, none⟩), .int .u64 153]]).run Tryd.prog W
      = .ok (.tuple #[]) ((W.setCell ⟨tb, 0, none⟩ (.int .i64 x)).setCell ⟨tb, 1, none⟩ (.string s)) := by
  rw [as_rls]
  simp only [Sem.run_bind, asPartsSa, asPartsS, Result.andThen]
  simp [ReflectliteValue.flagAddr, Result.andThen, asLoadS sb x s W h0 h1, asDirectS, asStoreS tb x s o0 o1 W t0 t1 f0 f1]
theorem as_hit (b : Nat) (x : Int) (s : ByteArray) (o0 o1 : Value) (w : World) (hg : w.cell? ⟨0, 0, none⟩ = some (.iface 135 (.agg #[.pointer (some ⟨1, 62, none⟩)]))) (t0 : w.cell? ⟨b, 0, none⟩ = some o0) (t1 : w.cell? ⟨b, 1, none⟩ = some o1) (f0 : w.frozen? ⟨b, 0, none⟩ = false) (f1 : w.frozen? ⟨b, 1, none⟩ = false) :
    Calls Tryd.prog 19 #[.iface 59 (.agg #[.int .i64 x, .string s]), .iface 64 (.pointer (some ⟨b, 0, none⟩))] w fun ev w' => ev = .returned (.bool true) ∧ w' = ((((((w.alloc (.cells #[.pointer (some ⟨b, 0, none⟩)] 64)).alloc (.cells #[.pointer (some ⟨1, 64, none⟩), .pointer (some ⟨w.heap.size, 0, none⟩), .int .u64 150] 93)).alloc (.cells #[.pointer (some ⟨1, 64, none⟩), .pointer (some ⟨w.heap.size, 0, none⟩), .int .u64 150] 93)).alloc (.cells #[.int .i64 x, .string s] 59)).setCell ⟨b, 0, none⟩ (.int .i64 x)).setCell ⟨b, 1, none⟩ (.string s)) := by
  have hValueOf := @run_callFunc_extern Tryd.prog 35 _ (fun args => ReflectliteValue.unpack (args.getD 0 (.tuple #[]))) Tryd.func35 (by kernel_rfl) (by kernel_rfl) (by kernel_rfl) (by kernel_rfl)
  have hType := @run_callFunc_extern Tryd.prog 36 _ (ReflectliteValue.methodAny (ReflectliteValue.valueError "reflectlite.Value.Type" 0) (fun t _ _ _ => ReflectliteType.toType t)) Tryd.func36 (by kernel_rfl) (by kernel_rfl) (by kernel_rfl) (by kernel_rfl)
  have hIsNil := @run_callFunc_extern Tryd.prog 37 _ (ReflectliteValue.method (ReflectliteValue.valueError "reflectlite.Value.IsNil" 0) ReflectliteValue.isNil) Tryd.func37 (by kernel_rfl) (by kernel_rfl) (by kernel_rfl) (by kernel_rfl)
  have hKind := @run_callFunc_extern Tryd.prog 116 _ (ReflectliteType.abiMethod fun t => do pure (.int .u8 (← Rtype.kind t))) Tryd.func116 (by kernel_rfl) (by kernel_rfl) (by kernel_rfl) (by kernel_rfl)
  have hTElem := @run_callFunc_extern Tryd.prog 126 _ (ReflectliteType.method ReflectliteType.elem) Tryd.func126 (by kernel_rfl) (by kernel_rfl) (by kernel_rfl) (by kernel_rfl)
  have hImpl := @run_callFunc_extern Tryd.prog 127 _ (ReflectliteType.relation "Implements" ReflectliteType.implements_) Tryd.func127 (by kernel_rfl) (by kernel_rfl) (by kernel_rfl) (by kernel_rfl)
  have hTypeOf := @run_callFunc_extern Tryd.prog 69 _ ReflectliteType.typeOf Tryd.func69 (by kernel_rfl) (by kernel_rfl) (by kernel_rfl) (by kernel_rfl)
  have hAssn := @run_callFunc_extern Tryd.prog 124 _ (ReflectliteType.relation "AssignableTo" ReflectliteType.assignableTo) Tryd.func124 (by kernel_rfl) (by kernel_rfl) (by kernel_rfl) (by kernel_rfl)
  have hVElem := @run_callFunc_extern Tryd.prog 70 _ (ReflectliteValue.method (ReflectliteValue.valueError "reflectlite.Value.Elem" 0) ReflectliteValue.elem) Tryd.func70 (by kernel_rfl) (by kernel_rfl) (by kernel_rfl) (by kernel_rfl)
  have hSet := @run_callFunc_extern Tryd.prog 71 _ ReflectliteValue.set Tryd.func71 (by kernel_rfl) (by kernel_rfl) (by kernel_rfl) (by kernel_rfl)
  have tO := asTypeOfS
  have mA := asMethodAssn
  have aS := asAssnS
  have vS := asValueOfS
  have vP := asValueOfP
  have tP := asTypeP
  have mK := asMethodKind
  have mE := asMethodElem
  have mI := asMethodImpl
  have kP := asKindP
  have kS := asKindS
  have eP := asElemP
  have iS := asImplS
  have hlt : 0 < w.heap.size := by
    rcases Nat.eq_zero_or_pos w.heap.size with h0 | h
    · simp [World.cell?, h0] at hg
    · exact h
  have htl : b < w.heap.size := Bl t0
  have n8 := asIsNilP ⟨w.heap.size, 0, none⟩ ⟨b, 0, none⟩ ((w.alloc (.cells #[.pointer (some ⟨b, 0, none⟩)] 64)).alloc (.cells #[.pointer (some ⟨1, 64, none⟩), .pointer (some ⟨w.heap.size, 0, none⟩), .int .u64 150] 93)) (by simp)
  have hg2 : ((w.alloc (.cells #[.pointer (some ⟨b, 0, none⟩)] 64)).alloc (.cells #[.pointer (some ⟨1, 64, none⟩), .pointer (some ⟨w.heap.size, 0, none⟩), .int .u64 150] 93)).cell? ⟨0, 0, none⟩ = some (.iface 135 (.agg #[.pointer (some ⟨1, 62, none⟩)])) := by
    rw [World.cell?_alloc_lt _ _ ⟨0, 0, none⟩ (by simp), World.cell?_alloc_lt _ _ ⟨0, 0, none⟩ hlt]; exact hg
  have el := asElemVP ⟨w.heap.size, 0, none⟩ ⟨b, 0, none⟩ (((w.alloc (.cells #[.pointer (some ⟨b, 0, none⟩)] 64)).alloc (.cells #[.pointer (some ⟨1, 64, none⟩), .pointer (some ⟨w.heap.size, 0, none⟩), .int .u64 150] 93)).alloc (.cells #[.pointer (some ⟨1, 64, none⟩), .pointer (some ⟨w.heap.size, 0, none⟩), .int .u64 150] 93)) (by rw [World.cell?_alloc_lt _ _ ⟨w.heap.size, 0, none⟩ (by simp; omega)]; simp)
  have st := asSetS b (w.heap.size + 1 + 1 + 1) x s o0 o1 ((((w.alloc (.cells #[.pointer (some ⟨b, 0, none⟩)] 64)).alloc (.cells #[.pointer (some ⟨1, 64, none⟩), .pointer (some ⟨w.heap.size, 0, none⟩), .int .u64 150] 93)).alloc (.cells #[.pointer (some ⟨1, 64, none⟩), .pointer (some ⟨w.heap.size, 0, none⟩), .int .u64 150] 93)).alloc (.cells #[.int .i64 x, .string s] 59))
    (by rw [World.cell?_alloc_at _ _ _ _ (by simp)]; rfl) (by rw [World.cell?_alloc_at _ _ _ _ (by simp)]; rfl)
    (by rw [World.cell?_alloc_lt _ _ ⟨b, 0, none⟩ (by simp; omega), World.cell?_alloc_lt _ _ ⟨b, 0, none⟩ (by simp; omega), World.cell?_alloc_lt _ _ ⟨b, 0, none⟩ (by simp; omega), World.cell?_alloc_lt _ _ ⟨b, 0, none⟩ htl]; exact t0)
    (by rw [World.cell?_alloc_lt _ _ ⟨b, 1, none⟩ (by simp; omega), World.cell?_alloc_lt _ _ ⟨b, 1, none⟩ (by simp; omega), World.cell?_alloc_lt _ _ ⟨b, 1, none⟩ (by simp; omega), World.cell?_alloc_lt _ _ ⟨b, 1, none⟩ htl]; exact t1)
    (by rw [World.frozen?_alloc_old _ _ ⟨b, 0, none⟩ (by simp; omega), World.frozen?_alloc_old _ _ ⟨b, 0, none⟩ (by simp; omega), World.frozen?_alloc_old _ _ ⟨b, 0, none⟩ (by simp; omega), World.frozen?_alloc_old _ _ ⟨b, 0, none⟩ (Nat.ne_of_lt htl)]; exact f0)
    (by rw [World.frozen?_alloc_old _ _ ⟨b, 1, none⟩ (by simp; omega), World.frozen?_alloc_old _ _ ⟨b, 1, none⟩ (by simp; omega), World.frozen?_alloc_old _ _ ⟨b, 1, none⟩ (by simp; omega), World.frozen?_alloc_old _ _ ⟨b, 1, none⟩ (Nat.ne_of_lt htl)]; exact f1)
  go_enter Tryd.func19, Tryd.ntmps19
  go_wp2
  refine wp_loop_rounds 1 ?_
  rw [rounds_succ]
  go_wp2
  go_ret
  exact ⟨rfl, rfl⟩
end Go.Proofs.YtdjcdecbmeickaaDoor
namespace Go.Proofs.YtdjcdecbmeickaaDoor
set_option maxHeartbeats 64000000
set_option maxRecDepth 100000
open Go.RowKit Go.Lib
def ErrT (w : World) : Prop := w.cell? ⟨0, 0, none⟩ = some (.iface 135 (.agg #[.pointer (some ⟨1, 62, none⟩)]))
theorem ErrT.below {w w' : World} (h : ErrT w) (hb : Below w.heap.size w w') : ErrT w' := later' hb h
theorem as_told (b : Nat) (x : Int) (s : ByteArray) (o0 o1 : Value) (w : World) (hg : ErrT w) (t0 : w.cell? ⟨b, 0, none⟩ = some o0) (t1 : w.cell? ⟨b, 1, none⟩ = some o1) (f0 : w.frozen? ⟨b, 0, none⟩ = false) (f1 : w.frozen? ⟨b, 1, none⟩ = false) :
    Calls Tryd.prog 19 #[.iface 59 (.agg #[.int .i64 x, .string s]), .iface 64 (.pointer (some ⟨b, 0, none⟩))] w fun ev w' => ev = .returned (.bool true) ∧ w'.cell? ⟨b, 0, none⟩ = some (.int .i64 x) ∧ w'.cell? ⟨b, 1, none⟩ = some (.string s) ∧ w.grownBy w' (some b) := by
  refine (as_hit b x s o0 o1 w hg t0 t1 f0 f1).mono fun e w' hh => ?_
  obtain ⟨h1, h2⟩ := hh
  subst h2
  have h4 := ((((Below.refl w.heap.size w).alloc Nr (.cells #[.pointer (some ⟨b, 0, none⟩)] 64)).alloc (by simp) (.cells #[.pointer (some ⟨1, 64, none⟩), .pointer (some ⟨w.heap.size, 0, none⟩), .int .u64 150] 93)).alloc (by simp; omega) (.cells #[.pointer (some ⟨1, 64, none⟩), .pointer (some ⟨w.heap.size, 0, none⟩), .int .u64 150] 93)).alloc (by simp; omega) (.cells #[.int .i64 x, .string s] 59)
  exact ⟨h1, (at_oth _ _ _ _ _ (by decide)).trans (at_sam _ (later' h4 t0)), at_sam _ ((at_oth _ _ _ _ _ (by decide)).trans (later' h4 t1)), Gt (grown_of h4) (Gt (set_grown ..) (set_grown ..))⟩
theorem pcheck_any (m : Md) (hm : MdOk m) (ac : Option Addr) (cc : Nat) (ab : Option Addr) (cb : Nat) (K : Nat → Prop) (w : World) (h : ModAt w K m ac cc ab cb) (hE : ErrT w) (hok : ∀ e n, scM m = some (e, n) → n.length ≤ 100000) :
    Calls Tryd.prog 11 #[.agg #[.slice ac m.1.length cc, .slice ab m.2.length cb]] w fun e w' => e = .returned (.tuple #[.int .i64 (stN (scM m)).1, .string (tx (stN (scM m)).2)]) ∧ Below w.heap.size w w' := by
  have hx1 := (Below.refl w.heap.size w).alloc Nr (.cells #[.slice ac m.1.length cc, .slice ab m.2.length cb] 26)
  have hx := hx1.alloc hx1.size (.cells #[.int .i64 0, .string ⟨#[]⟩] 59)
  have hB1 := (BoxW.alloc w #[.slice ac m.1.length cc, .slice ab m.2.length cb] 26).below (Br.alloc Nr (.cells #[.int .i64 0, .string ⟨#[]⟩] 59))
  have hB2 := BoxW.alloc (w.alloc (.cells #[.slice ac m.1.length cc, .slice ab m.2.length cb] 26)) #[.int .i64 0, .string ⟨#[]⟩] 59
  rw [show (w.alloc (.cells #[.slice ac m.1.length cc, .slice ab m.2.length cb] 26)).heap.size = w.heap.size + 1 by simp] at hB2
  have HF := Hd (modfault_any m hm ac cc ab cb K ((w.alloc (.cells #[.slice ac m.1.length cc, .slice ab m.2.length cb] 26)).alloc (.cells #[.int .i64 0, .string ⟨#[]⟩] 59)) (h.below hx))
  have HX := Hd (Ai hx (Ai hB1 hB2))
  have HE := Hd (Ai hE hok)
  clear hx1 hx hB1 hB2 h hE hok
  go_enter Tryd.func11, Tryd.ntmps11
  go_wp2_with fail
  refine HF.out.mono ?_
  rintro e w2 ⟨rfl, hb2⟩
  have HB := Hd (Ai (onB' HX.out.1 hb2) (HX.out.2.2.below hb2))
  clear hb2 HF HX
  cases hfo : scM m with
  | none =>
    have HT := Hd hfo
    unfold vErr
    clear hfo
    go_wp2_with (go_at_call 19; refine (as_nil _ _).mono ?_; rintro e w3 ⟨rfl, rfl⟩)
    go_ret2
    exact ⟨by rw [HT.out]; rfl, HB.out.1⟩
  | some fo =>
    have HT := Hd hfo
    obtain ⟨er, nn⟩ := fo
    have hnl := HE.out.2 er nn hfo
    unfold vErr
    clear hfo
    have HA := Hd (as_told (w.heap.size + 1) er (tx nn) (.int .i64 0) (.string ⟨#[]⟩) w2 (HE.out.1.below HB.out.1) (HB.out.2.1 0 _ rfl) (HB.out.2.1 1 _ rfl) (HB.out.2.2 0) (HB.out.2.2 1))
    go_wp2_with fail
    refine HA.out.mono ?_
    rintro e w3 ⟨rfl, c0, c1, hg3⟩
    have HB3 := Hd (below_of_new HB.out.1 hg3 (by omega))
    have hsx : (tx nn).size ≤ 140737488355328 := by
      have : (tx nn).size = nn.length := by simp [tx, ByteArray.size]
      omega
    have HC := Hd (fun W => clone_any (tx nn) hsx W)
    clear hg3 HA hsx
    go_wp2_with fail
    have HD := Hd (show Below w3.heap.size w3 w3.drew from Br.drew)
    go_region_held3 (fun W' => W'.cell? ⟨w.heap.size + 1, 0, none⟩ = some (.int .i64 er) ∧ W'.cell? ⟨w.heap.size + 1, 1, none⟩ = some (.string (tx nn))) (first | exact ⟨k0, k1⟩ | exact ⟨c0, c1⟩ | go_keep) (first
      | (go_at_call 21
         refine (HC.out _).mono ?_
         rintro e w4 ⟨rfl, hb4⟩
         have H4 := onB' HD.out hb4
         have k0 := later' H4 c0
         have k1 := later' H4 c1))
    all_goals (go_wp2_with fail; go_ret2; exact ⟨by rw [HT.out]; rfl, onB' HB3.out H4⟩)
theorem PAt.o2 {W : World} {b p i0 i1 : Nat} {T : List Tok} {s : St} {v0 v1 : Value} (h : PAt W b T s) (hp : b < p) : PAt ((W.setCell ⟨p, i0, none⟩ v0).setCell ⟨p, i1, none⟩ v1) b T s := (h.over hp _).over hp _
theorem PAt.o8 {W : World} {b p i0 i1 i2 i3 i4 i5 i6 i7 : Nat} {T : List Tok} {s : St} {v0 v1 v2 v3 v4 v5 v6 v7 : Value} (h : PAt W b T s) (hp : b < p) : PAt ((((((((W.setCell ⟨p, i0, none⟩ v0).setCell ⟨p, i1, none⟩ v1).setCell ⟨p, i2, none⟩ v2).setCell ⟨p, i3, none⟩ v3).setCell ⟨p, i4, none⟩ v4).setCell ⟨p, i5, none⟩ v5).setCell ⟨p, i6, none⟩ v6).setCell ⟨p, i7, none⟩ v7) b T s := (((((((h.over hp _).over hp _).over hp _).over hp _).over hp _).over hp _).over hp _).over hp _
theorem own_o8 {W : World} {base size n p i0 i1 i2 i3 i4 i5 i6 i7 : Nat} {e : TypeId} {u v0 v1 v2 v3 v4 v5 v6 v7 : Value} {xs : List Value} (h : W.ownsRow base e size u n xs) (hn : ∀ g, u.ownBlock = some g → some g ≠ some p) : World.ownsRow ((((((((W.setCell ⟨p, i0, none⟩ v0).setCell ⟨p, i1, none⟩ v1).setCell ⟨p, i2, none⟩ v2).setCell ⟨p, i3, none⟩ v3).setCell ⟨p, i4, none⟩ v4).setCell ⟨p, i5, none⟩ v5).setCell ⟨p, i6, none⟩ v6).setCell ⟨p, i7, none⟩ v7) base e size u n xs := own_o (own_o (own_o (own_o (own_o (own_o (own_o (own_o h (set_grown _ p i0 v0) hn) (set_grown _ p i1 v1) hn) (set_grown _ p i2 v2) hn) (set_grown _ p i3 v3) hn) (set_grown _ p i4 v4) hn) (set_grown _ p i5 v5) hn) (set_grown _ p i6 v6) hn) (set_grown _ p i7 v7) hn
end Go.Proofs.YtdjcdecbmeickaaDoor
