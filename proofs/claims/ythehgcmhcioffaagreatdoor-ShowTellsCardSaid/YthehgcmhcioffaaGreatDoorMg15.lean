import Derived.Test.YthehgcmhcioffaaGreatDoorMg11
import Derived.Test.YthehgcmhcioffaaGreatDoorMg14
namespace Go.Proofs.YthehgcmhcioffaaGreatDoor
set_option maxHeartbeats 64000000
set_option maxRecDepth 100000
open Go.RowKit Go.Lib
theorem more_go {α : Type} {item : Dp α} {fu : Nat} {acc : List α} {s : St} (he : s.e = 0) (hs : seesL [59] s.r = true) : moreD item (fu + 1) acc s = moreD item fu (acc ++ [(item s.next).1]) (item s.next).2 := by
  conv => lhs; unfold moreD
  exact if_pos ⟨he, hs⟩
theorem more_no {α : Type} {item : Dp α} {fu : Nat} {acc : List α} {s : St} (h : ¬ (s.e = 0 ∧ seesL [59] s.r = true)) : moreD item fu acc s = (acc, s) := by
  cases fu with
  | zero => rfl
  | succ fu =>
    conv => lhs; unfold moreD
    exact if_neg h
def Ks (lo p : Nat) (W W' : World) : Prop := W.heap.size ≤ W'.heap.size ∧ ∀ g, lo ≤ g → g ≠ p → g < W.heap.size → W'.heap[g]? = W.heap[g]?
theorem Ks.refl (lo p : Nat) (W : World) : Ks lo p W W := ⟨Nat.le_refl _, fun _ _ _ _ => rfl⟩
theorem Ks.trans {lo p : Nat} {W W' W'' : World} (h : Ks lo p W W') (h2 : Ks lo p W' W'') : Ks lo p W W'' := ⟨Nt h.1 h2.1, fun g a b c => (h2.2 g a b (Nat.lt_of_lt_of_le c h.1)).trans (h.2 g a b c)⟩
theorem Ks.grown {lo p b : Nat} {W W' : World} (hg : W.grownBy W' (some b)) (hb : b < lo) : Ks lo p W W' := ⟨hg.size, fun g h1 _ h3 => hg.block g h3 (by simp; omega)⟩
theorem Ks.below {lo p : Nat} {W W' : World} (hb : Below W.heap.size W W') : Ks lo p W W' := ⟨hb.size, fun g _ _ h3 => hb.block g h3⟩
theorem Ks.set {lo p : Nat} (W : World) (q i : Nat) (v : Value) (h : q = p ∨ q < lo) : Ks lo p W (W.setCell ⟨q, i, none⟩ v) := ⟨by simp, fun g h1 h2 _ => Below.heap_setCell _ _ _ _ (by simp only; omega)⟩
theorem dlet_any (b : Nat) (T : List Tok) (k : Nat) (hEx : ExprDC b T k) (dd : Int) (hd : IntKind.i64.wrap (dd + 1) = 201 - (k : Int)) (_ : True) (hle : ¬ (200 : Int) < dd) (s : St) (he : s.e = 0) (h1 : seesL [108, 101, 116] s.r = true) (w : World) (hP : PAt w b T s) : Calls Tryz.prog 102 #[.pointer (some ⟨b, 0, none⟩), .int .i64 dd] w (DSaid b T (ExV w.heap.size) (exprD (lastOf 1 T) (k + 1) s) w) := by
  have hlt : b < w.heap.size := hP.lt
  have hx := (Below.refl w.heap.size w).alloc Nr (.cells #[.int .i64 0, .string ⟨#[]⟩, .bool false, .int .u64 0, .slice none 0 0, .slice none 0 0, .slice none 0 0, .slice none 0 0] 37)
  have HX := Hd (Ai hx (BoxW.alloc w #[.int .i64 0, .string ⟨#[]⟩, .bool false, .int .u64 0, .slice none 0 0, .slice none 0 0, .slice none 0 0, .slice none 0 0] 37))
  have H0 := Hd (Ai (hP.later hx) (grown_of (b := b) (Below.refl (w.alloc (.cells #[.int .i64 0, .string ⟨#[]⟩, .bool false, .int .u64 0, .slice none 0 0, .slice none 0 0, .slice none 0 0, .slice none 0 0] 37)).heap.size (w.alloc (.cells #[.int .i64 0, .string ⟨#[]⟩, .bool false, .int .u64 0, .slice none 0 0, .slice none 0 0, .slice none 0 0, .slice none 0 0] 37)))))
  have HT0 := Hd hP.n
  clear hx hP
  go_enter Tryz.func102, Tryz.ntmps102
  go_upto_region 1 with fail
  have hsz0 : w.heap.size + 1 ≤ (w.alloc (.cells #[.int .i64 0, .string ⟨#[]⟩, .bool false, .int .u64 0, .slice none 0 0, .slice none 0 0, .slice none 0 0, .slice none 0 0] 37)).heap.size := by simp
  generalize (w.alloc (.cells #[.int .i64 0, .string ⟨#[]⟩, .bool false, .int .u64 0, .slice none 0 0, .slice none 0 0, .slice none 0 0, .slice none 0 0] 37)) = W at *
  have c2 := H0.out.1.c2
  have HD := Hd hd
  have HE0 := Hd he
  have f0 : (s.e != 0) = false := by simp [he]
  have hc := dsees_any b T (s) [108, 101, 116] W H0.out.1
  rw [h1] at hc
  have HC := Hd hc
  clear hc
  go_wp2_with fail
  refine HC.out.mono ?_
  rintro e w1 ⟨rfl, hb⟩
  have HG1 := Hd (grown_of (b := b) hb)
  have hsz1 : W.heap.size ≤ w1.heap.size := hb.size
  have H1 := Hd (Ai (H0.out.1.later hb) (Gt H0.out.2 HG1.out))
  clear HC hb
  have HPu := Hd ((expr_letD (ll := (lastOf 1 T)) (k := k) he h1).trans (show letD (lastOf 1 T) (exprD (lastOf 1 T) k) s.next = (.mk 6 [] false 0 [] [((exprD (lastOf 1 T) k) (needD (lastOf 1 T) [105, 110] (someD (bindD (lastOf 1 T) (exprD (lastOf 1 T) k)) s.next).2)).1] (someD (bindD (lastOf 1 T) (exprD (lastOf 1 T) k)) s.next).1 [], ((exprD (lastOf 1 T) k) (needD (lastOf 1 T) [105, 110] (someD (bindD (lastOf 1 T) (exprD (lastOf 1 T) k)) s.next).2)).2) from rfl))
  have HNE := Hd (sees_ne h1)
  clear h1 he
  obtain ⟨i, hiT, hir, c1⟩ := H1.out.1.c1
  have y1 := H1.out.1.z 1
  have hTn := HT0.out
  have ej : IntKind.i64.wrap ((i : Int) + 1) = (i : Int) + 1 := by rw [IntKind.wrap_i64]; omega
  have hP9 := H1.out.1.next c1 HNE.out
  have hgs := set_grown w1 b 1 (.int .i64 ((i : Int) + 1))
  have H2 := Hd (Ai hP9 (Gt H1.out.2 hgs))
  have HG2 := Hd hgs
  have hsz2 : w1.heap.size ≤ (w1.setCell ⟨b, 1, none⟩ (.int .i64 ((i : Int) + 1))).heap.size := by simp
  clear hir hiT hP9 hgs
  go_wp2_with fail
  generalize (w1.setCell ⟨b, 1, none⟩ (.int .i64 ((i : Int) + 1))) = w2 at *
  clear c1 y1
  have HMb := Hd (bind_lt (ll := (lastOf 1 T)) (ex := (exprD (lastOf 1 T) k)) (expr_mn k) (s := s.next) HE0.out)
  have HMs := Hd (show mS s.next ≤ 100000 by have h1 := next_lt HE0.out HNE.out; have h2 := mS_le H0.out.1; have := HT0.out; omega)
  have hsm : someD (bindD (lastOf 1 T) (exprD (lastOf 1 T) k)) s.next = moreD (bindD (lastOf 1 T) (exprD (lastOf 1 T) k)) (((bindD (lastOf 1 T) (exprD (lastOf 1 T) k)) s.next).2.r.length + 1) [((bindD (lastOf 1 T) (exprD (lastOf 1 T) k)) s.next).1] ((bindD (lastOf 1 T) (exprD (lastOf 1 T) k)) s.next).2 := rfl
  refine (dbind_any b T k hEx dd HD.out s.next w2 H2.out.1).mono ?_
  rintro e w3 ⟨⟨vp0, k1, nm1, f1, u1, vq, vk, vb, va, rfl, hrow, hat⟩, hP, hg⟩
  have HG3 := Hd hg
  have hsz3 : w2.heap.size ≤ w3.heap.size := hg.size
  have H3 := Hd (Ai hP (Gt H2.out.2 hg))
  clear hP hg
  obtain ⟨ap0, np0, cp0, rfl⟩ := hrow.slice
  obtain ⟨⟨ap1, np1, cp1, rfl⟩, ⟨ak1, nk1, ck1, rfl⟩, ⟨ab1, nb1, cb1, rfl⟩, ⟨aa1, na1, ca1, rfl⟩⟩ := hat.slices
  have HIt := Hd (Ai hrow hat)
  clear hrow hat
  generalize someD (bindD (lastOf 1 T) (exprD (lastOf 1 T) k)) s.next = SM at *
  generalize (bindD (lastOf 1 T) (exprD (lastOf 1 T) k)) s.next = Q at *
  obtain ⟨a, s1⟩ := Q
  simp only at *
  have HSM := Hd hsm
  clear hsm
  go_wp2_with fail
  have hy1 := (Below.refl w3.heap.size w3).alloc Nr (.cells #[.string (tx a.1), .slice ap0 np0 cp0, .int .i64 k1, .string nm1, .bool f1, .int .u64 u1, .slice ap1 np1 cp1, .slice ak1 nk1 ck1, .slice ab1 nb1 cb1, .slice aa1 na1 ca1] 39)
  have hy2 := (Below.refl (w3.alloc (.cells #[.string (tx a.1), .slice ap0 np0 cp0, .int .i64 k1, .string nm1, .bool f1, .int .u64 u1, .slice ap1 np1 cp1, .slice ak1 nk1 ck1, .slice ab1 nb1 cb1, .slice aa1 na1 ca1] 39)).heap.size (w3.alloc (.cells #[.string (tx a.1), .slice ap0 np0 cp0, .int .i64 k1, .string nm1, .bool f1, .int .u64 u1, .slice ap1 np1 cp1, .slice ak1 nk1 ck1, .slice ab1 nb1 cb1, .slice aa1 na1 ca1] 39))).alloc Nr (.cells #[.int .i64 6, .string ⟨#[]⟩, .bool false, .int .u64 0, .slice none 0 0, .slice none 0 0, .slice (some ⟨w3.heap.size, 0, none⟩) 1 1, .slice none 0 0] 37)
  have hy12 := onB' hy1 hy2
  have hszL : w3.heap.size + 2 ≤ ((w3.alloc (.cells #[.string (tx a.1), .slice ap0 np0 cp0, .int .i64 k1, .string nm1, .bool f1, .int .u64 u1, .slice ap1 np1 cp1, .slice ak1 nk1 ck1, .slice ab1 nb1 cb1, .slice aa1 na1 ca1] 39)).alloc (.cells #[.int .i64 6, .string ⟨#[]⟩, .bool false, .int .u64 0, .slice none 0 0, .slice none 0 0, .slice (some ⟨w3.heap.size, 0, none⟩) 1 1, .slice none 0 0] 37)).heap.size := by simp
  have HBL := Hd (show BoxW ((w3.alloc (.cells #[.string (tx a.1), .slice ap0 np0 cp0, .int .i64 k1, .string nm1, .bool f1, .int .u64 u1, .slice ap1 np1 cp1, .slice ak1 nk1 ck1, .slice ab1 nb1 cb1, .slice aa1 na1 ca1] 39)).alloc (.cells #[.int .i64 6, .string ⟨#[]⟩, .bool false, .int .u64 0, .slice none 0 0, .slice none 0 0, .slice (some ⟨w3.heap.size, 0, none⟩) 1 1, .slice none 0 0] 37)) (w3.heap.size + 1) [.int .i64 6, .string ⟨#[]⟩, .bool false, .int .u64 0, .slice none 0 0, .slice none 0 0, .slice (some ⟨w3.heap.size, 0, none⟩) 1 1, .slice none 0 0] by have h := BoxW.alloc (w3.alloc (.cells #[.string (tx a.1), .slice ap0 np0 cp0, .int .i64 k1, .string nm1, .bool f1, .int .u64 u1, .slice ap1 np1 cp1, .slice ak1 nk1 ck1, .slice ab1 nb1 cb1, .slice aa1 na1 ca1] 39)) #[.int .i64 6, .string ⟨#[]⟩, .bool false, .int .u64 0, .slice none 0 0, .slice none 0 0, .slice (some ⟨w3.heap.size, 0, none⟩) 1 1, .slice none 0 0] 37; rwa [World.size_alloc] at h)
  have HOL := Hd (show ((w3.alloc (.cells #[.string (tx a.1), .slice ap0 np0 cp0, .int .i64 k1, .string nm1, .bool f1, .int .u64 u1, .slice ap1 np1 cp1, .slice ak1 nk1 ck1, .slice ab1 nb1 cb1, .slice aa1 na1 ca1] 39)).alloc (.cells #[.int .i64 6, .string ⟨#[]⟩, .bool false, .int .u64 0, .slice none 0 0, .slice none 0 0, .slice (some ⟨w3.heap.size, 0, none⟩) 1 1, .slice none 0 0] 37)).ownsRow W.heap.size 39 10 (.slice (some ⟨w3.heap.size, 0, none⟩) 1 1) 1 [.string (tx a.1), .slice ap0 np0 cp0, .int .i64 k1, .string nm1, .bool f1, .int .u64 u1, .slice ap1 np1 cp1, .slice ak1 nk1 ck1, .slice ab1 nb1 cb1, .slice aa1 na1 ca1] from own_below (own_built (W := (w3.alloc (.cells #[.string (tx a.1), .slice ap0 np0 cp0, .int .i64 k1, .string nm1, .bool f1, .int .u64 u1, .slice ap1 np1 cp1, .slice ak1 nk1 ck1, .slice ab1 nb1 cb1, .slice aa1 na1 ca1] 39))) (g := w3.heap.size) (base := W.heap.size) (size := 10) (n := 1) (cs := #[.string (tx a.1), .slice ap0 np0 cp0, .int .i64 k1, .string nm1, .bool f1, .int .u64 u1, .slice ap1 np1 cp1, .slice ak1 nk1 ck1, .slice ab1 nb1 cb1, .slice aa1 na1 ca1]) (heap_alloc_new _ _) (by omega) rfl (by decide)) hy2)
  have HXL := Hd (show BndsAt ((w3.alloc (.cells #[.string (tx a.1), .slice ap0 np0 cp0, .int .i64 k1, .string nm1, .bool f1, .int .u64 u1, .slice ap1 np1 cp1, .slice ak1 nk1 ck1, .slice ab1 nb1 cb1, .slice aa1 na1 ca1] 39)).alloc (.cells #[.int .i64 6, .string ⟨#[]⟩, .bool false, .int .u64 0, .slice none 0 0, .slice none 0 0, .slice (some ⟨w3.heap.size, 0, none⟩) 1 1, .slice none 0 0] 37)) (fun g => W.heap.size ≤ g ∧ some g ≠ (.slice (some ⟨w3.heap.size, 0, none⟩) 1 1 : Value).ownBlock ∧ g ≠ (w3.heap.size + 1)) [a] [.string (tx a.1), .slice ap0 np0 cp0, .int .i64 k1, .string nm1, .bool f1, .int .u64 u1, .slice ap1 np1 cp1, .slice ak1 nk1 ck1, .slice ab1 nb1 cb1, .slice aa1 na1 ca1] from BndsAt.cons a.1 a.2.1 a.2.2 [] (.slice ap0 np0 cp0) _ [] (HIt.out.1.move fun g hg lt => ⟨⟨Nt (by omega) hg, fun e => by have h : g = w3.heap.size := Oi e; omega, by omega⟩, hy12.block g lt⟩) (HIt.out.2.move fun g hg lt => ⟨⟨Nt (by omega) hg, fun e => by have h : g = w3.heap.size := Oi e; omega, by omega⟩, hy12.block g lt⟩) .nil)
  have HPL := Hd (Ai (H3.out.1.later hy12) (Gt H3.out.2 (grown_of (b := b) hy12)))
  clear hy1 hy2 hy12
  generalize ((w3.alloc (.cells #[.string (tx a.1), .slice ap0 np0 cp0, .int .i64 k1, .string nm1, .bool f1, .int .u64 u1, .slice ap1 np1 cp1, .slice ak1 nk1 ck1, .slice ab1 nb1 cb1, .slice aa1 na1 ca1] 39)).alloc (.cells #[.int .i64 6, .string ⟨#[]⟩, .bool false, .int .u64 0, .slice none 0 0, .slice none 0 0, .slice (some ⟨w3.heap.size, 0, none⟩) 1 1, .slice none 0 0] 37)) = WL at *
  go_loopw [] (fun wr => ∃ (s' : St) (bs : List Bnd) (vb : Value) (cs : List Value) (fu : Nat), PAt wr b T s' ∧ W.grownBy wr (some b) ∧ mS s' ≤ fu ∧ moreD (bindD (lastOf 1 T) (exprD (lastOf 1 T) k)) fu bs s' = SM ∧ bs.length + mS s' ≤ mS s.next ∧ BoxW wr (w3.heap.size + 1) [.int .i64 6, .string ⟨#[]⟩, .bool false, .int .u64 0, .slice none 0 0, .slice none 0 0, vb, .slice none 0 0] ∧ wr.ownsRow W.heap.size 39 10 vb bs.length cs ∧ BndsAt wr (fun g => W.heap.size ≤ g ∧ some g ≠ (vb : Value).ownBlock ∧ g ≠ (w3.heap.size + 1)) bs cs ∧ some (w3.heap.size + 1) ≠ vb.ownBlock ∧ WL.heap.size ≤ wr.heap.size) (fun wr => stM T.length b wr)
  case atStart => exact ⟨s1, [a], _, _, _, HPL.out.1, HPL.out.2, by unfold mS; split <;> omega, HSM.out.symm, by have h : mS s1 < mS s.next := HMb.out; simp; omega, HBL.out, HOL.out, HXL.out, fun e => by have h : w3.heap.size + 1 = w3.heap.size := Oi e; omega, Nat.le_refl _⟩
  case round =>
    obtain ⟨s', bs, vb, cs, fu, hP, hg, hfu, hN, hn, hB, hown, hbt, hvp, hsL⟩ := hrel
    obtain ⟨aa, cc, rfl, hlow⟩ := own_shape hown
    have c2 := hP.c2
    have HS0 := Hd hP
    have HBq := Hd hB
    have HOb := Hd hown
    have HXb := Hd hbt
    have HVp := Hd hvp
    have HLw := Hd hlow
    have HLt := Hd (show ∀ g, (Value.slice aa bs.length cc).ownBlock = some g → g < wr.heap.size from fun g e => (hown.lt g e).2)
    have H20 := Hd (Ai hP hg)
    have HQ := Hd (Ai hfu hn)
    have HM := Hd hN
    have hpr : w3.heap.size + 1 < wr.heap.size := by omega
    clear hP hg hfu hN hn hB hown hbt hvp hlow
    by_cases ge : s'.e = 0
    · have f1 : (s'.e == 0) = true := by simp [ge]
      have hc := dsees_any b T s' [59] wr H20.out.1
      by_cases hs : seesL [59] s'.r = true
      · rw [hs] at hc
        have hN := HM.out
        obtain ⟨fu', rfl⟩ : ∃ q, fu = q + 1 := ⟨fu - 1, by have := HQ.out.1; have := mS_alive ge; omega⟩
        rw [more_go ge hs] at hN
        have HN := Hd hN
        have HNE2 := Hd (sees_ne hs)
        have HGE := Hd ge
        have HC := Hd hc
        clear hN hc hs ge
        go_wp2_with fail
        refine HC.out.mono ?_
        rintro e w21 ⟨rfl, hb⟩
        have HG21 := Hd (grown_of (b := b) hb)
        have hsz21 : wr.heap.size ≤ w21.heap.size := hb.size
        have H21 := Hd (Ai (H20.out.1.later hb) (Gt H20.out.2 HG21.out))
        clear HC hb
        replace HBq := Hd (boxw_grown HBq.out HG21.out (by omega))
        obtain ⟨i, hiT, hir, c1⟩ := H21.out.1.c1
        have y1 := H21.out.1.z 1
        have hTn := HT0.out
        have ej : IntKind.i64.wrap ((i : Int) + 1) = (i : Int) + 1 := by rw [IntKind.wrap_i64]; omega
        have hP9 := H21.out.1.next c1 HNE2.out
        have hgs := set_grown w21 b 1 (.int .i64 ((i : Int) + 1))
        have H22 := Hd (Ai hP9 (Gt H21.out.2 hgs))
        have HG22 := Hd hgs
        have hsz22 : w21.heap.size ≤ (w21.setCell ⟨b, 1, none⟩ (.int .i64 ((i : Int) + 1))).heap.size := by simp
        clear hir hiT hP9 hgs
        go_wp2_with fail
        generalize (w21.setCell ⟨b, 1, none⟩ (.int .i64 ((i : Int) + 1))) = w22 at *
        clear c1 y1
        replace HBq := Hd (boxw_grown HBq.out HG22.out (by omega))
        have HOn := Hd (own_kept HOb.out (Gt HG21.out HG22.out) (fun e => by have := HLw.out b e; omega))
        have HCo := Hd (fun (W' : World) (hb : Below w22.heap.size w22 W') => dbind_any b T k hEx dd HD.out s'.next W' (H22.out.1.later hb))
        have q6 : w22.cell? ⟨(w3.heap.size + 1), 6, none⟩ = some (.slice aa bs.length cc) := HBq.out.1 6 _ rfl
        have HNm := Hd (show bs.length + 1 ≤ 100000 by have := HQ.out.2; have := mS_alive HGE.out; have := HMs.out; omega)
        have HLT := Hd (Nat.lt_of_lt_of_le (bind_lt (ll := (lastOf 1 T)) (ex := (exprD (lastOf 1 T) k)) (expr_mn k) (s := s'.next) HGE.out) (next_mn s'))
        have HHn := Hd H22.out
        have hnm : bs.length + 1 ≤ 100000 := HNm.out
        generalize hqi : (bindD (lastOf 1 T) (exprD (lastOf 1 T) k)) s'.next = Q at *
        obtain ⟨a, s2⟩ := Q
        clear hqi
        go_region_law
          (first
            | (refine step_onto_bind rfl _ _ rfl (w5.alloc (.cells #[.string (tx a.1), .slice ap0 np0 cp0, .int .i64 k1, .string nm1, .bool f1, .int .u64 u1, .slice ap1 np1 cp1, .slice ak1 nk1 ck1, .slice ab1 nb1 cb1, .slice aa1 na1 ca1] 39)) W.heap.size bs.length (.slice aa bs.length cc) cs rfl HO6.out w5.heap.size 1 [.string (tx a.1), .slice ap0 np0 cp0, .int .i64 k1, .string nm1, .bool f1, .int .u64 u1, .slice ap1 np1 cp1, .slice ak1 nk1 ck1, .slice ab1 nb1 cb1, .slice aa1 na1 ca1] _ rfl (own_built (cs := #[.string (tx a.1), .slice ap0 np0 cp0, .int .i64 k1, .string nm1, .bool f1, .int .u64 u1, .slice ap1 np1 cp1, .slice ak1 nk1 ck1, .slice ab1 nb1 cb1, .slice aa1 na1 ca1]) (heap_alloc_new _ _) Nr rfl (by decide)) HO1.out (by omega) HS6.out ?_; intro ao cap w9 hon; have hBq := boxw_o HB6.out hon.2.1 HVp.out; have qb6 := hBq.1 6 _ rfl; have zb6 := hBq.2 6; have H9 := Hd (Ai hon hBq); clear hon hBq)
            | (refine step_wanted rfl ?_; go_simp; go_at_call 59; refine (HCo.out _ (by first | exact Br | exact Br.drew | exact dbelow Br _)).mono ?_; rintro e w5 ⟨⟨vp0, k1, nm1, f1, u1, vq, vk, vb, va, rfl, hrow, hat⟩, hP5, hg5'⟩; obtain ⟨ap0, np0, cp0, rfl⟩ := hrow.slice; obtain ⟨⟨ap1, np1, cp1, rfl⟩, ⟨ak1, nk1, ck1, rfl⟩, ⟨ab1, nb1, cb1, rfl⟩, ⟨aa1, na1, ca1, rfl⟩⟩ := hat.slices; have hg5 : w22.grownBy w5 (some b) := Gt (grown_of (by first | exact Br | exact Br.drew | exact dbelow Br _)) hg5'; have hB5 := boxw_grown HBq.out hg5 (by omega); have q6 := hB5.1 6 _ rfl; have hy5 := (Below.refl w5.heap.size w5).alloc Nr (.cells #[.string (tx a.1), .slice ap0 np0 cp0, .int .i64 k1, .string nm1, .bool f1, .int .u64 u1, .slice ap1 np1 cp1, .slice ak1 nk1 ck1, .slice ab1 nb1 cb1, .slice aa1 na1 ca1] 39); have qc6 := (hB5.below hy5).1 6 _ rfl; have HB6 := Hd (hB5.below hy5); have HO6 := Hd (own_below (own_kept HOn.out hg5 (fun e => by have := HLw.out b e; omega)) hy5); have HO1 := Hd (show ∀ zz ∈ ([.string (tx a.1), .slice ap0 np0 cp0, .int .i64 k1, .string nm1, .bool f1, .int .u64 u1, .slice ap1 np1 cp1, .slice ak1 nk1 ck1, .slice ab1 nb1 cb1, .slice aa1 na1 ca1] : List Value), zz.oneCell' = true by intro z hz; simp at hz; rcases hz with rfl | rfl | rfl | rfl | rfl | rfl | rfl | rfl | rfl | rfl <;> rfl); have hs5 : w22.heap.size ≤ w5.heap.size := hg5.size; have HS6 := Hd (show W.heap.size ≤ (w5.alloc (.cells #[.string (tx a.1), .slice ap0 np0 cp0, .int .i64 k1, .string nm1, .bool f1, .int .u64 u1, .slice ap1 np1 cp1, .slice ak1 nk1 ck1, .slice ab1 nb1 cb1, .slice aa1 na1 ca1] 39)).heap.size by have := hy5.size; omega); have H6 := Hd (Ai (show PAt w5 b T s2 from hP5) (Ai hg5 (Ai (show RowAt w5 (fun g => w22.heap.size ≤ g) 9 1 (.slice ap0 np0 cp0) a.2.1.length (namesV a.2.1) from hrow) (Ai (show ExAt w5 (fun g => w22.heap.size ≤ g) a.2.2 _ from hat) hy5)))); clear hP5 hg5 hg5' hrow hat hy5 hB5))
        all_goals
          go_wp2_with fail
          obtain ⟨⟨o1, o2, o3⟩, hB9⟩ := H9.out
          obtain ⟨hP5, hg5, hrow, hat, hy5⟩ := H6.out
          have hs5 := hg5.size
          have hs6 := hy5.size
          have hlow9 : ∀ g, (Value.slice aa bs.length cc).ownBlock = some g → W.heap.size ≤ g := HLw.out
          have hlt9 : ∀ g, (Value.slice aa bs.length cc).ownBlock = some g → g < wr.heap.size := HLt.out
          obtain ⟨q, hq, hg9⟩ := grown_some (b := b) o2 (fun g e => by have := hlow9 g e; omega)
          have hs9 := hg9.size
          have hP9 := ((hP5.later hy5).past hg9 hq).over (p := (w3.heap.size + 1)) (i := 6) (by omega) (.slice ao (bs.length + 1) cap)
          have hG9 := grown_new (grown_past (Gt HHn.out.2 (Gt hg5 (grown_of hy5))) o2 hlow9) (p := (w3.heap.size + 1)) (i := 6) (by omega) (.slice ao (bs.length + 1) cap)
          have hvn : some (w3.heap.size + 1) ≠ (Value.slice ao (bs.length + 1) cap).ownBlock := fun e => by
            rcases o3 with h | h
            · exact HVp.out (e.trans h)
            · have h2 : w3.heap.size + 1 = (w5.alloc (.cells #[.string (tx a.1), .slice ap0 np0 cp0, .int .i64 k1, .string nm1, .bool f1, .int .u64 u1, .slice ap1 np1 cp1, .slice ak1 nk1 ck1, .slice ab1 nb1 cb1, .slice aa1 na1 ca1] 39)).heap.size := Oi (e.trans h)
              omega
          have hO9 := own_o o1 (set_grown w9 (w3.heap.size + 1) 6 (.slice ao (bs.length + 1) cap)) (fun g e e2 => hvn (e2.symm.trans e.symm))
          have hBf := hB9.set 6 (show 6 < 8 by decide) (.slice ao (bs.length + 1) cap)
          have hnw : ∀ g, g ≠ (w3.heap.size + 1) → (w9.setCell ⟨(w3.heap.size + 1), 6, none⟩ (.slice ao (bs.length + 1) cap)).heap[g]? = w9.heap[g]? := fun g h => Below.heap_setCell _ _ _ _ (by simp only; omega)
          have hln := HLT.out
          have hlm : mS s2 < mS s' := hln
          have hfu := HQ.out.1
          have hlq := HQ.out.2
          have hnv : ∀ g, g < w5.heap.size → some g ≠ (Value.slice aa bs.length cc).ownBlock → some g ≠ (Value.slice ao (bs.length + 1) cap).ownBlock := fun g h1 h2 e => by
            rcases o3 with h | h
            · exact h2 (e.trans h)
            · have h3 : g = (w5.alloc (.cells #[.string (tx a.1), .slice ap0 np0 cp0, .int .i64 k1, .string nm1, .bool f1, .int .u64 u1, .slice ap1 np1 cp1, .slice ak1 nk1 ck1, .slice ab1 nb1 cb1, .slice aa1 na1 ca1] 39)).heap.size := Oi (e.trans h)
              omega
          refine ⟨⟨s2, bs ++ [a], _, cs ++ [.string (tx a.1), .slice ap0 np0 cp0, .int .i64 k1, .string nm1, .bool f1, .int .u64 u1, .slice ap1 np1 cp1, .slice ak1 nk1 ck1, .slice ab1 nb1 cb1, .slice aa1 na1 ca1], fu', hP9, hG9, by omega, HN.out, by simp; omega, hBf, by simpa using hO9, ?_, hvn, by simp; omega⟩, by rw [hP9.m, HS0.out.m]; exact hlm⟩
          have hfar : ∀ g, w22.heap.size ≤ g → g < w5.heap.size → (W.heap.size ≤ g ∧ some g ≠ (Value.slice ao (bs.length + 1) cap).ownBlock ∧ g ≠ (w3.heap.size + 1)) ∧ (w9.setCell ⟨(w3.heap.size + 1), 6, none⟩ (.slice ao (bs.length + 1) cap)).heap[g]? = w5.heap[g]? := fun g h1 h2 => by
            have hne : some g ≠ (Value.slice aa bs.length cc).ownBlock := fun e => by have := hlt9 g e.symm; omega
            exact ⟨⟨by omega, hnv g h2 hne, by omega⟩, (hnw g (by omega)).trans ((o2.block g (by omega) hne).trans (hy5.block g h2))⟩
          refine BndsAt.snoc (HXb.out.move fun g hg lt => ?_) (hrow.move fun g hg lt => hfar g hg lt) (hat.move fun g hg lt => hfar g hg lt)
          exact ⟨⟨hg.1, hnv g (by omega) hg.2.1, hg.2.2⟩, (hnw g hg.2.2).trans ((o2.block g (by omega) hg.2.1).trans ((hy5.block g (by omega)).trans ((hg5.block g (by omega) (by have := hg.1; simp; omega)).trans ((HG22.out.block g (by omega) (by have := hg.1; simp; omega)).trans (HG21.out.block g lt (by have := hg.1; simp; omega))))))⟩
      · have hs' : seesL [59] s'.r = false := by simpa using hs
        rw [hs'] at hc
        have HC := Hd hc
        have HNs := Hd hs
        clear hc hs hs' ge
        go_wp2_with fail
        refine HC.out.mono ?_
        rintro e w21 ⟨rfl, hb⟩
        have HG21 := Hd (grown_of (b := b) hb)
        have hsz21 : wr.heap.size ≤ w21.heap.size := hb.size
        have H21 := Hd (Ai (H20.out.1.later hb) (Gt H20.out.2 HG21.out))
        clear HC hb
        replace HBq := Hd (boxw_grown HBq.out HG21.out (by omega))
        have HRn := Hd (own_kept HOb.out HG21.out (fun e => by have := HLw.out b e; omega))
        clear HOb
        have HOb := HRn
        clear HRn
        have hN := HM.out
        rw [more_no (fun h => HNs.out h.2)] at hN
        have HPw := Hd (show exprD (lastOf 1 T) (k + 1) s = (.mk 6 [] false 0 [] [((exprD (lastOf 1 T) k) (needD (lastOf 1 T) [105, 110] (s'))).1] bs [], ((exprD (lastOf 1 T) k) (needD (lastOf 1 T) [105, 110] (s'))).2) from by rw [HPu.out, ← hN])
        clear hN HPu
        have HKs := Hd (Ks.refl W.heap.size (w3.heap.size + 1) wr)
        have HVq := Hd (show ∀ g, (Value.slice aa bs.length cc).ownBlock = some g → g ≠ (w3.heap.size + 1) from fun g e h => HVp.out (by rw [e, h]))
        have HKn := Hd (HKs.out.trans (Ks.grown HG21.out (by omega)))
        clear HKs
        have HKs := HKn
        clear HKn
        go_wp2_with fail
        refine (dneed_any b T (s') [105, 110] w21 H21.out.1).mono ?_
        rintro e w22 ⟨rfl, hP, hg⟩
        have HG22 := Hd hg
        have hsz22 : w21.heap.size ≤ w22.heap.size := hg.size
        have H22 := Hd (Ai hP (Gt H21.out.2 hg))
        clear hP hg
        replace HBq := Hd (boxw_grown HBq.out HG22.out (by omega))
        have HKn := Hd (HKs.out.trans (Ks.grown HG22.out (by omega)))
        clear HKs
        have HKs := HKn
        clear HKn
        have HRn := Hd (own_kept HOb.out HG22.out (fun e => by have := HLw.out b e; omega))
        clear HOb
        have HOb := HRn
        clear HRn
        go_wp2_with fail
        refine (show Calls Tryz.prog 102 #[.pointer (some ⟨b, 0, none⟩), .int .i64 (201 - (k : Int))] w22 _ from hEx (needD (lastOf 1 T) [105, 110] (s')) w22 H22.out.1).mono ?_
        rintro e w23 ⟨⟨k0, nm, f, u, vp, vk, vb, va, rfl, hat⟩, hP, hg⟩
        have HG23 := Hd hg
        have hsz23 : w22.heap.size ≤ w23.heap.size := hg.size
        have H23 := Hd (Ai hP (Gt H22.out.2 hg))
        clear hP hg
        obtain ⟨⟨ap, np, cp, rfl⟩, ⟨ak, nk, ck, rfl⟩, ⟨ab, nb, cb, rfl⟩, ⟨a5, n5, c5, rfl⟩⟩ := hat.slices
        have HAx := Hd hat
        clear hat
        generalize (exprD (lastOf 1 T) k) (needD (lastOf 1 T) [105, 110] (s')) = Q at *
        obtain ⟨x, s3⟩ := Q
        replace HBq := Hd (boxw_grown HBq.out HG23.out (by omega))
        have HKn := Hd (HKs.out.trans (Ks.grown HG23.out (by omega)))
        clear HKs
        have HKs := HKn
        clear HKn
        have HRn := Hd (own_kept HOb.out HG23.out (fun e => by have := HLw.out b e; omega))
        clear HOb
        have HOb := HRn
        clear HRn
        have hy := (Below.refl w23.heap.size w23).alloc Nr (.cells #[.int .i64 k0, .string nm, .bool f, .int .u64 u, .slice ap np cp, .slice ak nk ck, .slice ab nb cb, .slice a5 n5 c5] 37)
        replace HBq := Hd (HBq.out.below hy)
        have HKd := Hd (own_built (W := (w23.alloc (.cells #[.int .i64 k0, .string nm, .bool f, .int .u64 u, .slice ap np cp, .slice ak nk ck, .slice ab nb cb, .slice a5 n5 c5] 37))) (g := w23.heap.size) (base := w23.heap.size) (e := 37) (size := 8) (n := 1) (cs := #[.int .i64 k0, .string nm, .bool f, .int .u64 u, .slice ap np cp, .slice ak nk ck, .slice ab nb cb, .slice a5 n5 c5]) (heap_alloc_new _ _) Nr rfl (by decide))
        have HG24 := Hd (grown_of (b := b) hy)
        have hsz24 : w23.heap.size + 1 ≤ (w23.alloc (.cells #[.int .i64 k0, .string nm, .bool f, .int .u64 u, .slice ap np cp, .slice ak nk ck, .slice ab nb cb, .slice a5 n5 c5] 37)).heap.size := by simp
        have H24 := Hd (Ai (H23.out.1.later hy) (Gt H23.out.2 HG24.out))
        have HRn := Hd (own_below HOb.out hy)
        clear HOb
        have HOb := HRn
        clear HRn
        clear hy
        have q5 : (w23.alloc (.cells #[.int .i64 k0, .string nm, .bool f, .int .u64 u, .slice ap np cp, .slice ak nk ck, .slice ab nb cb, .slice a5 n5 c5] 37)).cell? ⟨(w3.heap.size + 1), 5, none⟩ = some _ := HBq.out.1 5 _ rfl
        have z5 : (w23.alloc (.cells #[.int .i64 k0, .string nm, .bool f, .int .u64 u, .slice ap np cp, .slice ak nk ck, .slice ab nb cb, .slice a5 n5 c5] 37)).frozen? ⟨(w3.heap.size + 1), 5, none⟩ = false := HBq.out.2 5
        go_upto_region 16 with fail
        generalize hWA : (w23.alloc (.cells #[.int .i64 k0, .string nm, .bool f, .int .u64 u, .slice ap np cp, .slice ak nk ck, .slice ab nb cb, .slice a5 n5 c5] 37)) = WA at *
        clear hWA
        have HBn := Hd (show BoxW (WA.setCell ⟨(w3.heap.size + 1), 5, none⟩ (.slice (some ⟨w23.heap.size, 0, none⟩) 1 1)) (w3.heap.size + 1) [.int .i64 6, .string ⟨#[]⟩, .bool false, .int .u64 0, .slice none 0 0, .slice (some ⟨w23.heap.size, 0, none⟩) 1 1, .slice aa bs.length cc, .slice none 0 0] from (HBq.out).set 5 (show 5 < 8 by decide) (.slice (some ⟨w23.heap.size, 0, none⟩) 1 1))
        have H25 := Hd (Ai (show PAt (WA.setCell ⟨(w3.heap.size + 1), 5, none⟩ (.slice (some ⟨w23.heap.size, 0, none⟩) 1 1)) b T (s3) from (H24.out.1).over (show b < (w3.heap.size + 1) by omega) _) (show W.grownBy (WA.setCell ⟨(w3.heap.size + 1), 5, none⟩ (.slice (some ⟨w23.heap.size, 0, none⟩) 1 1)) (some b) from (grown_new H24.out.2 (show W.heap.size ≤ (w3.heap.size + 1) by omega) _)))
        have HK25 := Hd (show ∀ lo hi, (w3.heap.size + 1) < lo → Kp lo hi WA (WA.setCell ⟨(w3.heap.size + 1), 5, none⟩ (.slice (some ⟨w23.heap.size, 0, none⟩) 1 1)) from fun lo hi h => (Kp.set _ _ _ _ (Or.inl h)))
        have hsz25 : WA.heap.size ≤ (WA.setCell ⟨(w3.heap.size + 1), 5, none⟩ (.slice (some ⟨w23.heap.size, 0, none⟩) 1 1)).heap.size := by simp
        have HS25 := Hd (show Ks W.heap.size (w3.heap.size + 1) WA (WA.setCell ⟨(w3.heap.size + 1), 5, none⟩ (.slice (some ⟨w23.heap.size, 0, none⟩) 1 1)) from (Ks.set _ _ _ _ (Or.inl rfl)))
        have HRn := Hd (own_o HOb.out (set_grown _ (w3.heap.size + 1) 5 (.slice (some ⟨w23.heap.size, 0, none⟩) 1 1)) (fun g e e2 => by have := HVq.out g e; have := Oi e2; omega))
        clear HOb
        have HOb := HRn
        clear HRn
        have HRn := Hd (own_o HKd.out (set_grown _ (w3.heap.size + 1) 5 (.slice (some ⟨w23.heap.size, 0, none⟩) 1 1)) (fun g e e2 => by have := (HKd.out.lt g e).1; have := Oi e2; omega))
        clear HKd
        have HKd := HRn
        clear HRn
        clear HBq q5 z5
        have HBq := HBn
        clear HBn
        generalize (WA.setCell ⟨(w3.heap.size + 1), 5, none⟩ (.slice (some ⟨w23.heap.size, 0, none⟩) 1 1)) = w25 at *
        have HKn := Hd (HKs.out.trans (Ks.grown HG24.out (by omega)))
        clear HKs
        have HKs := HKn
        clear HKn
        have HKn := Hd (HKs.out.trans (HS25.out))
        clear HKs
        have HKs := HKn
        clear HKn
        have HPv := Hd (show exprD (lastOf 1 T) (k + 1) s = (.mk 6 [] false 0 [] [x] bs [], s3) from HPw.out)
        obtain ⟨q0, q1, q2, q3, q4, q5, q6, q7⟩ := (HBq.out).q8
        have hBp := boxw_grown HX.out.2 H25.out.2 (by omega)
        obtain ⟨d0, d1, d2, d3, d4, d5, d6, d7⟩ := (hBp).q8
        obtain ⟨z0, z1, z2, z3, z4, z5, z6, z7⟩ := (hBp).z8
        have HBp := Hd hBp
        clear hBp
        go_wp2_with fail
        have hF := ((HBp.out).b8v (.int .i64 6) (.string ⟨#[]⟩) (.bool false) (.int .u64 0) (.slice none 0 0) (.slice (some ⟨w23.heap.size, 0, none⟩) 1 1) (.slice aa bs.length cc) (.slice none 0 0))
        have v0 := hF.1 0 _ rfl
        have v1 := hF.1 1 _ rfl
        have v2 := hF.1 2 _ rfl
        have v3 := hF.1 3 _ rfl
        have v4 := hF.1 4 _ rfl
        have v5 := hF.1 5 _ rfl
        have v6 := hF.1 6 _ rfl
        have v7 := hF.1 7 _ rfl
        refine bodyPost_ret (v := .agg #[.int .i64 6, .string ⟨#[]⟩, .bool false, .int .u64 0, .slice none 0 0, .slice (some ⟨w23.heap.size, 0, none⟩) 1 1, .slice aa bs.length cc, .slice none 0 0]) (by simp [results, Tryz.results102, go_sem, v0, v1, v2, v3, v4, v5, v6, v7]) rfl ?_
        rw [HPv.out]
        refine ⟨⟨_, _, _, _, _, _, _, _, rfl, .mk 6 [] false 0 [] [x] bs [] _ _ (.slice aa bs.length cc) _ [.int .i64 k0, .string nm, .bool f, .int .u64 u, .slice ap np cp, .slice ak nk ck, .slice ab nb cb, .slice a5 n5 c5] cs [] (RowAt.nil _ _ _ _) ((RowAt.own HKd.out).kp (lo' := w.heap.size) ((Kp.s8 (Or.inl (by omega)))) (by omega)) ((RowAt.own HOb.out).kp (lo' := w.heap.size) ((Kp.s8 (Or.inl (by omega)))) (by omega)) (RowAt.nil _ _ _ _) (ExsAt.cons x [] [.int .i64 k0, .string nm, .bool f, .int .u64 u, .slice ap np cp, .slice ak nk ck, .slice ab nb cb, .slice a5 n5 c5] [] (HAx.out.kp (lo' := w.heap.size) ((((Kp.grown HG24.out (by omega) (by omega)).trans (HK25.out _ _ (by omega)))).trans ((Kp.s8 (Or.inl (by omega))))) (by omega)) .nil) (HXb.out.move fun g hg lt => ⟨Nt (by omega) hg.1, (HKs.out.trans ((((((((Ks.set _ _ _ _ (Or.inr (by omega))).trans (Ks.set _ _ _ _ (Or.inr (by omega)))).trans (Ks.set _ _ _ _ (Or.inr (by omega)))).trans (Ks.set _ _ _ _ (Or.inr (by omega)))).trans (Ks.set _ _ _ _ (Or.inr (by omega)))).trans (Ks.set _ _ _ _ (Or.inr (by omega)))).trans (Ks.set _ _ _ _ (Or.inr (by omega)))).trans (Ks.set _ _ _ _ (Or.inr (by omega))))).2 g hg.1 hg.2.2 lt⟩) .nil⟩, ((((((((H25.out.1).over hlt _).over hlt _).over hlt _).over hlt _).over hlt _).over hlt _).over hlt _).over hlt _, (grown_new (grown_new (grown_new (grown_new (grown_new (grown_new (grown_new (grown_new (Gt (grown_of (b := b) HX.out.1) H25.out.2) Nr _) Nr _) Nr _) Nr _) Nr _) Nr _) Nr _) Nr _)⟩
    · have f1 : (s'.e == 0) = false := by simp [ge]
      have HGe := Hd ge
      clear ge
      have hN := HM.out
      rw [more_no (fun h => HGe.out h.1)] at hN
      have HPw := Hd (show exprD (lastOf 1 T) (k + 1) s = (.mk 6 [] false 0 [] [((exprD (lastOf 1 T) k) (needD (lastOf 1 T) [105, 110] (s'))).1] bs [], ((exprD (lastOf 1 T) k) (needD (lastOf 1 T) [105, 110] (s'))).2) from by rw [HPu.out, ← hN])
      clear hN HPu
      have HKs := Hd (Ks.refl W.heap.size (w3.heap.size + 1) wr)
      have HVq := Hd (show ∀ g, (Value.slice aa bs.length cc).ownBlock = some g → g ≠ (w3.heap.size + 1) from fun g e h => HVp.out (by rw [e, h]))
      go_wp2_with fail
      refine (dneed_any b T (s') [105, 110] wr H20.out.1).mono ?_
      rintro e w21 ⟨rfl, hP, hg⟩
      have HG21 := Hd hg
      have hsz21 : wr.heap.size ≤ w21.heap.size := hg.size
      have H21 := Hd (Ai hP (Gt H20.out.2 hg))
      clear hP hg
      replace HBq := Hd (boxw_grown HBq.out HG21.out (by omega))
      have HKn := Hd (HKs.out.trans (Ks.grown HG21.out (by omega)))
      clear HKs
      have HKs := HKn
      clear HKn
      have HRn := Hd (own_kept HOb.out HG21.out (fun e => by have := HLw.out b e; omega))
      clear HOb
      have HOb := HRn
      clear HRn
      go_wp2_with fail
      refine (show Calls Tryz.prog 102 #[.pointer (some ⟨b, 0, none⟩), .int .i64 (201 - (k : Int))] w21 _ from hEx (needD (lastOf 1 T) [105, 110] (s')) w21 H21.out.1).mono ?_
      rintro e w22 ⟨⟨k0, nm, f, u, vp, vk, vb, va, rfl, hat⟩, hP, hg⟩
      have HG22 := Hd hg
      have hsz22 : w21.heap.size ≤ w22.heap.size := hg.size
      have H22 := Hd (Ai hP (Gt H21.out.2 hg))
      clear hP hg
      obtain ⟨⟨ap, np, cp, rfl⟩, ⟨ak, nk, ck, rfl⟩, ⟨ab, nb, cb, rfl⟩, ⟨a5, n5, c5, rfl⟩⟩ := hat.slices
      have HAx := Hd hat
      clear hat
      generalize (exprD (lastOf 1 T) k) (needD (lastOf 1 T) [105, 110] (s')) = Q at *
      obtain ⟨x, s3⟩ := Q
      replace HBq := Hd (boxw_grown HBq.out HG22.out (by omega))
      have HKn := Hd (HKs.out.trans (Ks.grown HG22.out (by omega)))
      clear HKs
      have HKs := HKn
      clear HKn
      have HRn := Hd (own_kept HOb.out HG22.out (fun e => by have := HLw.out b e; omega))
      clear HOb
      have HOb := HRn
      clear HRn
      have hy := (Below.refl w22.heap.size w22).alloc Nr (.cells #[.int .i64 k0, .string nm, .bool f, .int .u64 u, .slice ap np cp, .slice ak nk ck, .slice ab nb cb, .slice a5 n5 c5] 37)
      replace HBq := Hd (HBq.out.below hy)
      have HKd := Hd (own_built (W := (w22.alloc (.cells #[.int .i64 k0, .string nm, .bool f, .int .u64 u, .slice ap np cp, .slice ak nk ck, .slice ab nb cb, .slice a5 n5 c5] 37))) (g := w22.heap.size) (base := w22.heap.size) (e := 37) (size := 8) (n := 1) (cs := #[.int .i64 k0, .string nm, .bool f, .int .u64 u, .slice ap np cp, .slice ak nk ck, .slice ab nb cb, .slice a5 n5 c5]) (heap_alloc_new _ _) Nr rfl (by decide))
      have HG23 := Hd (grown_of (b := b) hy)
      have hsz23 : w22.heap.size + 1 ≤ (w22.alloc (.cells #[.int .i64 k0, .string nm, .bool f, .int .u64 u, .slice ap np cp, .slice ak nk ck, .slice ab nb cb, .slice a5 n5 c5] 37)).heap.size := by simp
      have H23 := Hd (Ai (H22.out.1.later hy) (Gt H22.out.2 HG23.out))
      have HRn := Hd (own_below HOb.out hy)
      clear HOb
      have HOb := HRn
      clear HRn
      clear hy
      have q5 : (w22.alloc (.cells #[.int .i64 k0, .string nm, .bool f, .int .u64 u, .slice ap np cp, .slice ak nk ck, .slice ab nb cb, .slice a5 n5 c5] 37)).cell? ⟨(w3.heap.size + 1), 5, none⟩ = some _ := HBq.out.1 5 _ rfl
      have z5 : (w22.alloc (.cells #[.int .i64 k0, .string nm, .bool f, .int .u64 u, .slice ap np cp, .slice ak nk ck, .slice ab nb cb, .slice a5 n5 c5] 37)).frozen? ⟨(w3.heap.size + 1), 5, none⟩ = false := HBq.out.2 5
      go_upto_region 16 with fail
      generalize hWA : (w22.alloc (.cells #[.int .i64 k0, .string nm, .bool f, .int .u64 u, .slice ap np cp, .slice ak nk ck, .slice ab nb cb, .slice a5 n5 c5] 37)) = WA at *
      clear hWA
      have HBn := Hd (show BoxW (WA.setCell ⟨(w3.heap.size + 1), 5, none⟩ (.slice (some ⟨w22.heap.size, 0, none⟩) 1 1)) (w3.heap.size + 1) [.int .i64 6, .string ⟨#[]⟩, .bool false, .int .u64 0, .slice none 0 0, .slice (some ⟨w22.heap.size, 0, none⟩) 1 1, .slice aa bs.length cc, .slice none 0 0] from (HBq.out).set 5 (show 5 < 8 by decide) (.slice (some ⟨w22.heap.size, 0, none⟩) 1 1))
      have H24 := Hd (Ai (show PAt (WA.setCell ⟨(w3.heap.size + 1), 5, none⟩ (.slice (some ⟨w22.heap.size, 0, none⟩) 1 1)) b T (s3) from (H23.out.1).over (show b < (w3.heap.size + 1) by omega) _) (show W.grownBy (WA.setCell ⟨(w3.heap.size + 1), 5, none⟩ (.slice (some ⟨w22.heap.size, 0, none⟩) 1 1)) (some b) from (grown_new H23.out.2 (show W.heap.size ≤ (w3.heap.size + 1) by omega) _)))
      have HK24 := Hd (show ∀ lo hi, (w3.heap.size + 1) < lo → Kp lo hi WA (WA.setCell ⟨(w3.heap.size + 1), 5, none⟩ (.slice (some ⟨w22.heap.size, 0, none⟩) 1 1)) from fun lo hi h => (Kp.set _ _ _ _ (Or.inl h)))
      have hsz24 : WA.heap.size ≤ (WA.setCell ⟨(w3.heap.size + 1), 5, none⟩ (.slice (some ⟨w22.heap.size, 0, none⟩) 1 1)).heap.size := by simp
      have HS24 := Hd (show Ks W.heap.size (w3.heap.size + 1) WA (WA.setCell ⟨(w3.heap.size + 1), 5, none⟩ (.slice (some ⟨w22.heap.size, 0, none⟩) 1 1)) from (Ks.set _ _ _ _ (Or.inl rfl)))
      have HRn := Hd (own_o HOb.out (set_grown _ (w3.heap.size + 1) 5 (.slice (some ⟨w22.heap.size, 0, none⟩) 1 1)) (fun g e e2 => by have := HVq.out g e; have := Oi e2; omega))
      clear HOb
      have HOb := HRn
      clear HRn
      have HRn := Hd (own_o HKd.out (set_grown _ (w3.heap.size + 1) 5 (.slice (some ⟨w22.heap.size, 0, none⟩) 1 1)) (fun g e e2 => by have := (HKd.out.lt g e).1; have := Oi e2; omega))
      clear HKd
      have HKd := HRn
      clear HRn
      clear HBq q5 z5
      have HBq := HBn
      clear HBn
      generalize (WA.setCell ⟨(w3.heap.size + 1), 5, none⟩ (.slice (some ⟨w22.heap.size, 0, none⟩) 1 1)) = w24 at *
      have HKn := Hd (HKs.out.trans (Ks.grown HG23.out (by omega)))
      clear HKs
      have HKs := HKn
      clear HKn
      have HKn := Hd (HKs.out.trans (HS24.out))
      clear HKs
      have HKs := HKn
      clear HKn
      have HPv := Hd (show exprD (lastOf 1 T) (k + 1) s = (.mk 6 [] false 0 [] [x] bs [], s3) from HPw.out)
      obtain ⟨q0, q1, q2, q3, q4, q5, q6, q7⟩ := (HBq.out).q8
      have hBp := boxw_grown HX.out.2 H24.out.2 (by omega)
      obtain ⟨d0, d1, d2, d3, d4, d5, d6, d7⟩ := (hBp).q8
      obtain ⟨z0, z1, z2, z3, z4, z5, z6, z7⟩ := (hBp).z8
      have HBp := Hd hBp
      clear hBp
      go_wp2_with fail
      have hF := ((HBp.out).b8v (.int .i64 6) (.string ⟨#[]⟩) (.bool false) (.int .u64 0) (.slice none 0 0) (.slice (some ⟨w22.heap.size, 0, none⟩) 1 1) (.slice aa bs.length cc) (.slice none 0 0))
      have v0 := hF.1 0 _ rfl
      have v1 := hF.1 1 _ rfl
      have v2 := hF.1 2 _ rfl
      have v3 := hF.1 3 _ rfl
      have v4 := hF.1 4 _ rfl
      have v5 := hF.1 5 _ rfl
      have v6 := hF.1 6 _ rfl
      have v7 := hF.1 7 _ rfl
      refine bodyPost_ret (v := .agg #[.int .i64 6, .string ⟨#[]⟩, .bool false, .int .u64 0, .slice none 0 0, .slice (some ⟨w22.heap.size, 0, none⟩) 1 1, .slice aa bs.length cc, .slice none 0 0]) (by simp [results, Tryz.results102, go_sem, v0, v1, v2, v3, v4, v5, v6, v7]) rfl ?_
      rw [HPv.out]
      refine ⟨⟨_, _, _, _, _, _, _, _, rfl, .mk 6 [] false 0 [] [x] bs [] _ _ (.slice aa bs.length cc) _ [.int .i64 k0, .string nm, .bool f, .int .u64 u, .slice ap np cp, .slice ak nk ck, .slice ab nb cb, .slice a5 n5 c5] cs [] (RowAt.nil _ _ _ _) ((RowAt.own HKd.out).kp (lo' := w.heap.size) ((Kp.s8 (Or.inl (by omega)))) (by omega)) ((RowAt.own HOb.out).kp (lo' := w.heap.size) ((Kp.s8 (Or.inl (by omega)))) (by omega)) (RowAt.nil _ _ _ _) (ExsAt.cons x [] [.int .i64 k0, .string nm, .bool f, .int .u64 u, .slice ap np cp, .slice ak nk ck, .slice ab nb cb, .slice a5 n5 c5] [] (HAx.out.kp (lo' := w.heap.size) ((((Kp.grown HG23.out (by omega) (by omega)).trans (HK24.out _ _ (by omega)))).trans ((Kp.s8 (Or.inl (by omega))))) (by omega)) .nil) (HXb.out.move fun g hg lt => ⟨Nt (by omega) hg.1, (HKs.out.trans ((((((((Ks.set _ _ _ _ (Or.inr (by omega))).trans (Ks.set _ _ _ _ (Or.inr (by omega)))).trans (Ks.set _ _ _ _ (Or.inr (by omega)))).trans (Ks.set _ _ _ _ (Or.inr (by omega)))).trans (Ks.set _ _ _ _ (Or.inr (by omega)))).trans (Ks.set _ _ _ _ (Or.inr (by omega)))).trans (Ks.set _ _ _ _ (Or.inr (by omega)))).trans (Ks.set _ _ _ _ (Or.inr (by omega))))).2 g hg.1 hg.2.2 lt⟩) .nil⟩, ((((((((H24.out.1).over hlt _).over hlt _).over hlt _).over hlt _).over hlt _).over hlt _).over hlt _).over hlt _, (grown_new (grown_new (grown_new (grown_new (grown_new (grown_new (grown_new (grown_new (Gt (grown_of (b := b) HX.out.1) H24.out.2) Nr _) Nr _) Nr _) Nr _) Nr _) Nr _) Nr _) Nr _)⟩
theorem run_nil_alt (ty : TypeId) (v : Value) (base n : Nat) (xs : List Value) (c : Nat) (w : World) (h : w.ownsRow base 56 13 v n xs) :
    (Builtin.append_ #[35, 35] ty #[v, .slice none 0 c]).run Tryz.prog w = .ok v w := by
  have hu : Tryz.prog.underlying 35 = some (.slice 56) := Tryz.underlying35
  rcases h.2 with ⟨rfl, rfl⟩ | ⟨g, cap, cur, rfl, _, _, hcap, _⟩
  · simp [Builtin.append_, run_underlying hu, Tryz.sizeOf56, Builtin.firstCells, Builtin.lenOf, go_sem]
  · simp [Builtin.append_, run_underlying hu, Tryz.sizeOf56, Builtin.firstCells, Builtin.lenOf, go_sem, hcap]
theorem run_onto_alt (ty : TypeId) (w : World) (base n : Nat) (v : Value) (xs : List Value) (hown : w.ownsRow base 56 13 v n xs) (b2 m : Nat) (ys : List Value) (x : Value) (hx : w.ownsRow b2 56 13 x m ys) (h1 : ∀ u ∈ ys, u.oneCell' = true) (hb : n + m ≤ 100000) (hbase : base ≤ w.heap.size) :
    ∃ ao cap w', (Builtin.append_ #[35, 35] ty #[v, x]).run Tryz.prog w = .ok (.slice ao (n + m) cap) w' ∧ Onto w base 56 13 v (n + m) (xs ++ ys) ao cap w' := by
  obtain ⟨i0, hi, hz0, hz1, hz2⟩ := info_parts Tryz.info_alt
  obtain ⟨hl, ⟨rfl, rfl⟩ | ⟨g, cap, cur, rfl, h2, h3, h4, h5, h6, h7⟩⟩ := id hx
  · have hy : ys = [] := List.length_eq_zero_iff.1 (by simpa using hl)
    subst hy
    obtain ⟨ao, cap, rfl, hlow⟩ := own_shape hown
    exact ⟨ao, cap, w, run_nil_alt ty _ base n xs 0 w hown, by simpa using hown, ⟨rfl, rfl, rfl, Nat.le_refl _, fun _ _ _ => rfl⟩, Or.inl rfl⟩
  · obtain ⟨v', w', hr, q2, q3, _, q5⟩ := run_append_own_at (P := Tryz.prog) w base 35 ty 56 i0 (.agg #[.int .i64 0, .string ⟨#[]⟩, .bool false, .int .u64 0, .slice none 0 0, .int .i64 0, .string ⟨#[]⟩, .bool false, .int .u64 0, .slice none 0 0, .slice none 0 0, .slice none 0 0, .slice none 0 0]) 13 200 Tryz.underlying35 hi hz0 hz1 hz2 rfl (by decide) v n xs hown ⟨g, 0, none⟩ m cap ys hl (own_news hx) h1 (by unfold maxLen; omega) (by omega) hbase
    obtain ⟨ao, c2, rfl, hlow⟩ := own_shape q2
    exact ⟨ao, c2, w', hr, q2, q3, q5⟩
theorem wp_onto_alt {o : Oper} {a : Act} {K : Act → World → Prop} {Q : Exit → Act → World → Prop} (s x : Operand) (ho : o.op = .call { callee := .builtin .append, args := #[s, x], argTypes := #[35, 35] })
    (w : World) (base n : Nat) (v : Value) (xs : List Value) (hs : a.eval s = v) (hown : w.ownsRow base 56 13 v n xs) (b2 m : Nat) (ys : List Value) (xv : Value) (hx : a.eval x = xv) (hsrc : w.ownsRow b2 56 13 xv m ys) (h1 : ∀ u ∈ ys, u.oneCell' = true) (hb : n + m ≤ 100000) (hbase : base ≤ w.heap.size)
    (h : ∀ ao cap w', Onto w base 56 13 v (n + m) (xs ++ ys) ao cap w' → K (a.put o.dst (.slice ao (n + m) cap)) w') : o.wp Tryz.prog a w K Q := by
  obtain ⟨ao, cap, w', hr, h2⟩ := run_onto_alt o.type w base n v xs hown b2 m ys xv hsrc h1 hb hbase
  unfold Oper.wp execOp
  simp only [ho, resolve, invoke, builtin, Sem.run_bind, Sem.run_pure, Result.andThen_ok, List.map_toArray, List.map_cons, List.map_nil, hs, hx, hr]
  exact h ao cap w' h2
theorem step_onto_alt {ops : Array Oper} {o : Oper} {a : Act} {K : Act → World → Prop} {Q : Exit → Act → World → Prop} {E : Prop} (hgd : o.guard = none) (s x : Operand) (ho : o.op = .call { callee := .builtin .append, args := #[s, x], argTypes := #[35, 35] })
    (w : World) (base n : Nat) (v : Value) (xs : List Value) (hs : a.eval s = v) (hown : w.ownsRow base 56 13 v n xs) (b2 m : Nat) (ys : List Value) (xv : Value) (hx : a.eval x = xv) (hsrc : w.ownsRow b2 56 13 xv m ys) (h1 : ∀ u ∈ ys, u.oneCell' = true) (hb : n + m ≤ 100000) (hbase : base ≤ w.heap.size)
    (h : ∀ ao cap w', Onto w base 56 13 v (n + m) (xs ++ ys) ao cap w' → K (a.put o.dst (.slice ao (n + m) cap)) w') :
    if Region.wanted o (yielded ops a.tmps) = true then Oper.wp Tryz.prog o a w K Q else E := by
  have hw : Region.wanted o (yielded ops a.tmps) = true := by simp [Region.wanted, hgd]
  rw [if_pos hw]
  exact wp_onto_alt s x ho w base n v xs hs hown b2 m ys xv hx hsrc h1 hb hbase h
end Go.Proofs.YthehgcmhcioffaaGreatDoor
