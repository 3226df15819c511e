import Derived.Deep.RegionHeld3
import Derived.Test.YtdjcdecbmeickaaMg5
import Derived.Test.YtdjcdecbmeickaaMg6
import Derived.Test.YtdjcdecbmeickaaMg9
namespace Go.Proofs.Ytdjcdecbmeickaa
set_option maxHeartbeats 64000000
set_option maxRecDepth 100000
open Go.RowKit Go.Lib
theorem more_go {α : Type} {item : Dp α} {fu : Nat} {acc : List α} {s : St} (he : s.e = 0) (hs : seesL [59] s.r = true) : moreD item (fu + 1) acc s = moreD item fu (acc ++ [(item s.next).1]) (item s.next).2 := by
  conv => lhs; unfold moreD
  exact if_pos ⟨he, hs⟩
theorem more_no {α : Type} {item : Dp α} {fu : Nat} {acc : List α} {s : St} (h : ¬ (s.e = 0 ∧ seesL [59] s.r = true)) : moreD item fu acc s = (acc, s) := by
  cases fu with
  | zero => rfl
  | succ fu =>
    conv => lhs; unfold moreD
    exact if_neg h
def Ks (lo p : Nat) (W W' : World) : Prop := W.heap.size ≤ W'.heap.size ∧ ∀ g, lo ≤ g → g ≠ p → g < W.heap.size → W'.heap[g]? = W.heap[g]?
theorem Ks.refl (lo p : Nat) (W : World) : Ks lo p W W := ⟨Nat.le_refl _, fun _ _ _ _ => rfl⟩
theorem Ks.trans {lo p : Nat} {W W' W'' : World} (h : Ks lo p W W') (h2 : Ks lo p W' W'') : Ks lo p W W'' := ⟨Nt h.1 h2.1, fun g a b c => (h2.2 g a b (Nat.lt_of_lt_of_le c h.1)).trans (h.2 g a b c)⟩
theorem Ks.grown {lo p b : Nat} {W W' : World} (hg : W.grownBy W' (some b)) (hb : b < lo) : Ks lo p W W' := ⟨hg.size, fun g h1 _ h3 => hg.block g h3 (by simp; omega)⟩
theorem Ks.below {lo p : Nat} {W W' : World} (hb : Below W.heap.size W W') : Ks lo p W W' := ⟨hb.size, fun g _ _ h3 => hb.block g h3⟩
theorem Ks.set {lo p : Nat} (W : World) (q i : Nat) (v : Value) (h : q = p ∨ q < lo) : Ks lo p W (W.setCell ⟨q, i, none⟩ v) := ⟨by simp, fun g h1 h2 _ => Below.heap_setCell _ _ _ _ (by simp only; omega)⟩
theorem RowAt.at_own {W : World} {base : Nat} {e : TypeId} {size : Nat} {v : Value} {n : Nat} {xs : List Value} (h : W.ownsRow base e size v n xs) : RowAt W (fun g => base ≤ g ∧ v.ownBlock = some g) e size v n xs := by
  obtain ⟨h0, ⟨rfl, rfl⟩ | ⟨g, cap, cur, rfl, hb, hc, h1, h2, -, h4⟩⟩ := h
  · exact ⟨h0, Or.inl ⟨rfl, rfl⟩⟩
  · refine ⟨h0, Or.inr ⟨g, 0, cap, _, rfl, ⟨hb, rfl⟩, hc, h1, h2, fun j u hj => ?_⟩⟩
    rw [Nat.zero_add, cell_of_row W g j cur e (0, 0) hc]
    rw [← h4] at hj
    have := List.getElem?_take (l := cur.toList) (i := n * size) (j := j)
    rw [hj] at this
    split at this
    · simpa using this.symm
    · cases this
theorem dlet_any (b : Nat) (T : List Tok) (k : Nat) (hEx : ExprDC b T k) (dd : Int) (hd : IntKind.i64.wrap (dd + 1) = 201 - (k : Int)) (_ : True) (hle : ¬ (200 : Int) < dd) (s : St) (he : s.e = 0) (h1 : seesL [108, 101, 116] s.r = true) (w : World) (hP : PAt w b T s) : Calls Try.prog 57 #[.pointer (some ⟨b, 0, none⟩), .int .i64 dd] w (DSaid b T (ExV w.heap.size) (exprD (lastOf 1 T) (k + 1) s) w) := by
  have hlt : b < w.heap.size := hP.lt
  have hx := (Below.refl w.heap.size w).alloc Nr (.cells #[.int .i64 0, .string ⟨#[]⟩, .bool false, .int .u64 0, .slice none 0 0, .slice none 0 0, .slice none 0 0, .slice none 0 0] 34)
  have HX := Hd (Ai hx (BoxW.alloc w #[.int .i64 0, .string ⟨#[]⟩, .bool false, .int .u64 0, .slice none 0 0, .slice none 0 0, .slice none 0 0, .slice none 0 0] 34))
  have H0 := Hd (Ai (hP.later hx) (grown_of (b := b) (Below.refl (w.alloc (.cells #[.int .i64 0, .string ⟨#[]⟩, .bool false, .int .u64 0, .slice none 0 0, .slice none 0 0, .slice none 0 0, .slice none 0 0] 34)).heap.size (w.alloc (.cells #[.int .i64 0, .string ⟨#[]⟩, .bool false, .int .u64 0, .slice none 0 0, .slice none 0 0, .slice none 0 0, .slice none 0 0] 34)))))
  have HT0 := Hd hP.n
  clear hx hP
  go_enter Try.func57, Try.ntmps57
  go_upto_region 1 with fail
  have hsz0 : w.heap.size + 1 ≤ (w.alloc (.cells #[.int .i64 0, .string ⟨#[]⟩, .bool false, .int .u64 0, .slice none 0 0, .slice none 0 0, .slice none 0 0, .slice none 0 0] 34)).heap.size := by simp
  generalize (w.alloc (.cells #[.int .i64 0, .string ⟨#[]⟩, .bool false, .int .u64 0, .slice none 0 0, .slice none 0 0, .slice none 0 0, .slice none 0 0] 34)) = W at *
  have c2 := H0.out.1.c2
  have HD := Hd hd
  have HE0 := Hd he
  have f0 : (s.e != 0) = false := by simp [he]
  have hc := dsees_any b T (s) [108, 101, 116] W H0.out.1
  rw [h1] at hc
  have HC := Hd hc
  clear hc
  go_wp2_with fail
  refine HC.out.mono ?_
  rintro e w1 ⟨rfl, hb⟩
  have HG1 := Hd (grown_of (b := b) hb)
  have hsz1 : W.heap.size ≤ w1.heap.size := hb.size
  have H1 := Hd (Ai (H0.out.1.later hb) (Gt H0.out.2 HG1.out))
  clear HC hb
  have HPu := Hd ((expr_letD (ll := (lastOf 1 T)) (k := k) he h1).trans (show letD (lastOf 1 T) (exprD (lastOf 1 T) k) s.next = (.mk 6 [] false 0 [] [((exprD (lastOf 1 T) k) (needD (lastOf 1 T) [105, 110] (someD (bindD (lastOf 1 T) (exprD (lastOf 1 T) k)) s.next).2)).1] (someD (bindD (lastOf 1 T) (exprD (lastOf 1 T) k)) s.next).1 [], ((exprD (lastOf 1 T) k) (needD (lastOf 1 T) [105, 110] (someD (bindD (lastOf 1 T) (exprD (lastOf 1 T) k)) s.next).2)).2) from rfl))
  have HNE := Hd (sees_ne h1)
  clear h1 he
  obtain ⟨i, hiT, hir, c1⟩ := H1.out.1.c1
  have y1 := H1.out.1.z 1
  have hTn := HT0.out
  have ej : IntKind.i64.wrap ((i : Int) + 1) = (i : Int) + 1 := by rw [IntKind.wrap_i64]; omega
  have hP9 := H1.out.1.next c1 HNE.out
  have hgs := set_grown w1 b 1 (.int .i64 ((i : Int) + 1))
  have H2 := Hd (Ai hP9 (Gt H1.out.2 hgs))
  have HG2 := Hd hgs
  have hsz2 : w1.heap.size ≤ (w1.setCell ⟨b, 1, none⟩ (.int .i64 ((i : Int) + 1))).heap.size := by simp
  clear hir hiT hP9 hgs
  go_wp2_with fail
  generalize (w1.setCell ⟨b, 1, none⟩ (.int .i64 ((i : Int) + 1))) = w2 at *
  clear c1 y1
  have HMb := Hd (bind_lt (ll := (lastOf 1 T)) (ex := (exprD (lastOf 1 T) k)) (expr_mn k) (s := s.next) HE0.out)
  have HMs := Hd (show mS s.next ≤ 100000 by have h1 := next_lt HE0.out HNE.out; have h2 := mS_le H0.out.1; have := HT0.out; omega)
  have hsm : someD (bindD (lastOf 1 T) (exprD (lastOf 1 T) k)) s.next = moreD (bindD (lastOf 1 T) (exprD (lastOf 1 T) k)) (((bindD (lastOf 1 T) (exprD (lastOf 1 T) k)) s.next).2.r.length + 1) [((bindD (lastOf 1 T) (exprD (lastOf 1 T) k)) s.next).1] ((bindD (lastOf 1 T) (exprD (lastOf 1 T) k)) s.next).2 := rfl
  refine (dbind_any b T k hEx dd HD.out s.next w2 H2.out.1).mono ?_
  rintro e w3 ⟨⟨vp0, k1, nm1, f1, u1, vq, vk, vb, va, rfl, hrow, hat⟩, hP, hg⟩
  have HG3 := Hd hg
  have hsz3 : w2.heap.size ≤ w3.heap.size := hg.size
  have H3 := Hd (Ai hP (Gt H2.out.2 hg))
  clear hP hg
  obtain ⟨ap0, np0, cp0, rfl⟩ := hrow.slice
  obtain ⟨⟨ap1, np1, cp1, rfl⟩, ⟨ak1, nk1, ck1, rfl⟩, ⟨ab1, nb1, cb1, rfl⟩, ⟨aa1, na1, ca1, rfl⟩⟩ := hat.slices
  have HIt := Hd (Ai hrow hat)
  clear hrow hat
  generalize someD (bindD (lastOf 1 T) (exprD (lastOf 1 T) k)) s.next = SM at *
  generalize (bindD (lastOf 1 T) (exprD (lastOf 1 T) k)) s.next = Q at *
  obtain ⟨a, s1⟩ := Q
  simp only at *
  have HSM := Hd hsm
  clear hsm
  go_wp2_with fail
  have hy1 := (Below.refl w3.heap.size w3).alloc Nr (.cells #[.string (tx a.1), .slice ap0 np0 cp0, .int .i64 k1, .string nm1, .bool f1, .int .u64 u1, .slice ap1 np1 cp1, .slice ak1 nk1 ck1, .slice ab1 nb1 cb1, .slice aa1 na1 ca1] 36)
  have hy2 := (Below.refl (w3.alloc (.cells #[.string (tx a.1), .slice ap0 np0 cp0, .int .i64 k1, .string nm1, .bool f1, .int .u64 u1, .slice ap1 np1 cp1, .slice ak1 nk1 ck1, .slice ab1 nb1 cb1, .slice aa1 na1 ca1] 36)).heap.size (w3.alloc (.cells #[.string (tx a.1), .slice ap0 np0 cp0, .int .i64 k1, .string nm1, .bool f1, .int .u64 u1, .slice ap1 np1 cp1, .slice ak1 nk1 ck1, .slice ab1 nb1 cb1, .slice aa1 na1 ca1] 36))).alloc Nr (.cells #[.int .i64 6, .string ⟨#[]⟩, .bool false, .int .u64 0, .slice none 0 0, .slice none 0 0, .slice (some ⟨w3.heap.size, 0, none⟩) 1 1, .slice none 0 0] 34)
  have hy12 := onB' hy1 hy2
  have hszL : w3.heap.size + 2 ≤ ((w3.alloc (.cells #[.string (tx a.1), .slice ap0 np0 cp0, .int .i64 k1, .string nm1, .bool f1, .int .u64 u1, .slice ap1 np1 cp1, .slice ak1 nk1 ck1, .slice ab1 nb1 cb1, .slice aa1 na1 ca1] 36)).alloc (.cells #[.int .i64 6, .string ⟨#[]⟩, .bool false, .int .u64 0, .slice none 0 0, .slice none 0 0, .slice (some ⟨w3.heap.size, 0, none⟩) 1 1, .slice none 0 0] 34)).heap.size := by simp
  have HBL := Hd (show BoxW ((w3.alloc (.cells #[.string (tx a.1), .slice ap0 np0 cp0, .int .i64 k1, .string nm1, .bool f1, .int .u64 u1, .slice ap1 np1 cp1, .slice ak1 nk1 ck1, .slice ab1 nb1 cb1, .slice aa1 na1 ca1] 36)).alloc (.cells #[.int .i64 6, .string ⟨#[]⟩, .bool false, .int .u64 0, .slice none 0 0, .slice none 0 0, .slice (some ⟨w3.heap.size, 0, none⟩) 1 1, .slice none 0 0] 34)) (w3.heap.size + 1) [.int .i64 6, .string ⟨#[]⟩, .bool false, .int .u64 0, .slice none 0 0, .slice none 0 0, .slice (some ⟨w3.heap.size, 0, none⟩) 1 1, .slice none 0 0] by have h := BoxW.alloc (w3.alloc (.cells #[.string (tx a.1), .slice ap0 np0 cp0, .int .i64 k1, .string nm1, .bool f1, .int .u64 u1, .slice ap1 np1 cp1, .slice ak1 nk1 ck1, .slice ab1 nb1 cb1, .slice aa1 na1 ca1] 36)) #[.int .i64 6, .string ⟨#[]⟩, .bool false, .int .u64 0, .slice none 0 0, .slice none 0 0, .slice (some ⟨w3.heap.size, 0, none⟩) 1 1, .slice none 0 0] 34; rwa [World.size_alloc] at h)
  have HOL := Hd (show ((w3.alloc (.cells #[.string (tx a.1), .slice ap0 np0 cp0, .int .i64 k1, .string nm1, .bool f1, .int .u64 u1, .slice ap1 np1 cp1, .slice ak1 nk1 ck1, .slice ab1 nb1 cb1, .slice aa1 na1 ca1] 36)).alloc (.cells #[.int .i64 6, .string ⟨#[]⟩, .bool false, .int .u64 0, .slice none 0 0, .slice none 0 0, .slice (some ⟨w3.heap.size, 0, none⟩) 1 1, .slice none 0 0] 34)).ownsRow W.heap.size 36 10 (.slice (some ⟨w3.heap.size, 0, none⟩) 1 1) 1 [.string (tx a.1), .slice ap0 np0 cp0, .int .i64 k1, .string nm1, .bool f1, .int .u64 u1, .slice ap1 np1 cp1, .slice ak1 nk1 ck1, .slice ab1 nb1 cb1, .slice aa1 na1 ca1] from own_below (own_built (W := (w3.alloc (.cells #[.string (tx a.1), .slice ap0 np0 cp0, .int .i64 k1, .string nm1, .bool f1, .int .u64 u1, .slice ap1 np1 cp1, .slice ak1 nk1 ck1, .slice ab1 nb1 cb1, .slice aa1 na1 ca1] 36))) (g := w3.heap.size) (base := W.heap.size) (size := 10) (n := 1) (cs := #[.string (tx a.1), .slice ap0 np0 cp0, .int .i64 k1, .string nm1, .bool f1, .int .u64 u1, .slice ap1 np1 cp1, .slice ak1 nk1 ck1, .slice ab1 nb1 cb1, .slice aa1 na1 ca1]) (heap_alloc_new _ _) (by omega) rfl (by decide)) hy2)
  have HXL := Hd (show BndsAt ((w3.alloc (.cells #[.string (tx a.1), .slice ap0 np0 cp0, .int .i64 k1, .string nm1, .bool f1, .int .u64 u1, .slice ap1 np1 cp1, .slice ak1 nk1 ck1, .slice ab1 nb1 cb1, .slice aa1 na1 ca1] 36)).alloc (.cells #[.int .i64 6, .string ⟨#[]⟩, .bool false, .int .u64 0, .slice none 0 0, .slice none 0 0, .slice (some ⟨w3.heap.size, 0, none⟩) 1 1, .slice none 0 0] 34)) (fun g => W.heap.size ≤ g ∧ some g ≠ (.slice (some ⟨w3.heap.size, 0, none⟩) 1 1 : Value).ownBlock ∧ g ≠ (w3.heap.size + 1)) [a] [.string (tx a.1), .slice ap0 np0 cp0, .int .i64 k1, .string nm1, .bool f1, .int .u64 u1, .slice ap1 np1 cp1, .slice ak1 nk1 ck1, .slice ab1 nb1 cb1, .slice aa1 na1 ca1] from BndsAt.cons a.1 a.2.1 a.2.2 [] (.slice ap0 np0 cp0) _ [] (HIt.out.1.move fun g hg lt => ⟨⟨Nt (by omega) hg, fun e => by have h : g = w3.heap.size := Oi e; omega, by omega⟩, hy12.block g lt⟩) (HIt.out.2.move fun g hg lt => ⟨⟨Nt (by omega) hg, fun e => by have h : g = w3.heap.size := Oi e; omega, by omega⟩, hy12.block g lt⟩) .nil)
  have HPL := Hd (Ai (H3.out.1.later hy12) (Gt H3.out.2 (grown_of (b := b) hy12)))
  clear hy1 hy2 hy12
  generalize ((w3.alloc (.cells #[.string (tx a.1), .slice ap0 np0 cp0, .int .i64 k1, .string nm1, .bool f1, .int .u64 u1, .slice ap1 np1 cp1, .slice ak1 nk1 ck1, .slice ab1 nb1 cb1, .slice aa1 na1 ca1] 36)).alloc (.cells #[.int .i64 6, .string ⟨#[]⟩, .bool false, .int .u64 0, .slice none 0 0, .slice none 0 0, .slice (some ⟨w3.heap.size, 0, none⟩) 1 1, .slice none 0 0] 34)) = WL at *
  go_loopw [] (fun wr => ∃ (s' : St) (bs : List Bnd) (vb : Value) (cs : List Value) (fu : Nat), PAt wr b T s' ∧ W.grownBy wr (some b) ∧ mS s' ≤ fu ∧ moreD (bindD (lastOf 1 T) (exprD (lastOf 1 T) k)) fu bs s' = SM ∧ bs.length + mS s' ≤ mS s.next ∧ BoxW wr (w3.heap.size + 1) [.int .i64 6, .string ⟨#[]⟩, .bool false, .int .u64 0, .slice none 0 0, .slice none 0 0, vb, .slice none 0 0] ∧ wr.ownsRow W.heap.size 36 10 vb bs.length cs ∧ BndsAt wr (fun g => W.heap.size ≤ g ∧ some g ≠ (vb : Value).ownBlock ∧ g ≠ (w3.heap.size + 1)) bs cs ∧ some (w3.heap.size + 1) ≠ vb.ownBlock ∧ WL.heap.size ≤ wr.heap.size) (fun wr => stM T.length b wr)
  case atStart => exact ⟨s1, [a], _, _, _, HPL.out.1, HPL.out.2, by unfold mS; split <;> omega, HSM.out.symm, by have h : mS s1 < mS s.next := HMb.out; simp; omega, HBL.out, HOL.out, HXL.out, fun e => by have h : w3.heap.size + 1 = w3.heap.size := Oi e; omega, Nat.le_refl _⟩
  case round =>
    obtain ⟨s', bs, vb, cs, fu, hP, hg, hfu, hN, hn, hB, hown, hbt, hvp, hsL⟩ := hrel
    obtain ⟨aa, cc, rfl, hlow⟩ := own_shape hown
    have c2 := hP.c2
    have HS0 := Hd hP
    have HBq := Hd hB
    have HOb := Hd hown
    have HXb := Hd hbt
    have HVp := Hd hvp
    have HLw := Hd hlow
    have HLt := Hd (show ∀ g, (Value.slice aa bs.length cc).ownBlock = some g → g < wr.heap.size from fun g e => (hown.lt g e).2)
    have H20 := Hd (Ai hP hg)
    have HQ := Hd (Ai hfu hn)
    have HM := Hd hN
    have hpr : w3.heap.size + 1 < wr.heap.size := by omega
    clear hP hg hfu hN hn hB hown hbt hvp hlow
    by_cases ge : s'.e = 0
    · have f1 : (s'.e == 0) = true := by simp [ge]
      have hc := dsees_any b T s' [59] wr H20.out.1
      by_cases hs : seesL [59] s'.r = true
      · rw [hs] at hc
        have hN := HM.out
        obtain ⟨fu', rfl⟩ : ∃ q, fu = q + 1 := ⟨fu - 1, by have := HQ.out.1; have := mS_alive ge; omega⟩
        rw [more_go ge hs] at hN
        have HN := Hd hN
        have HNE2 := Hd (sees_ne hs)
        have HGE := Hd ge
        have HC := Hd hc
        clear hN hc hs ge
        go_wp2_with fail
        refine HC.out.mono ?_
        rintro e w21 ⟨rfl, hb⟩
        have HG21 := Hd (grown_of (b := b) hb)
        have hsz21 : wr.heap.size ≤ w21.heap.size := hb.size
        have H21 := Hd (Ai (H20.out.1.later hb) (Gt H20.out.2 HG21.out))
        clear HC hb
        replace HBq := Hd (boxw_grown HBq.out HG21.out (by omega))
        obtain ⟨i, hiT, hir, c1⟩ := H21.out.1.c1
        have y1 := H21.out.1.z 1
        have hTn := HT0.out
        have ej : IntKind.i64.wrap ((i : Int) + 1) = (i : Int) + 1 := by rw [IntKind.wrap_i64]; omega
        have hP9 := H21.out.1.next c1 HNE2.out
        have hgs := set_grown w21 b 1 (.int .i64 ((i : Int) + 1))
        have H22 := Hd (Ai hP9 (Gt H21.out.2 hgs))
        have HG22 := Hd hgs
        have hsz22 : w21.heap.size ≤ (w21.setCell ⟨b, 1, none⟩ (.int .i64 ((i : Int) + 1))).heap.size := by simp
        clear hir hiT hP9 hgs
        go_wp2_with fail
        generalize (w21.setCell ⟨b, 1, none⟩ (.int .i64 ((i : Int) + 1))) = w22 at *
        clear c1 y1
        replace HBq := Hd (boxw_grown HBq.out HG22.out (by omega))
        have HOn := Hd (own_kept HOb.out (Gt HG21.out HG22.out) (fun e => by have := HLw.out b e; omega))
        have HCo := Hd (fun (W' : World) (hb : Below w22.heap.size w22 W') => dbind_any b T k hEx dd HD.out s'.next W' (H22.out.1.later hb))
        have q6 : w22.cell? ⟨(w3.heap.size + 1), 6, none⟩ = some (.slice aa bs.length cc) := HBq.out.1 6 _ rfl
        have HNm := Hd (show bs.length + 1 ≤ 100000 by have := HQ.out.2; have := mS_alive HGE.out; have := HMs.out; omega)
        have HLT := Hd (Nat.lt_of_lt_of_le (bind_lt (ll := (lastOf 1 T)) (ex := (exprD (lastOf 1 T) k)) (expr_mn k) (s := s'.next) HGE.out) (next_mn s'))
        have HHn := Hd H22.out
        have hnm : bs.length + 1 ≤ 100000 := HNm.out
        generalize hqi : (bindD (lastOf 1 T) (exprD (lastOf 1 T) k)) s'.next = Q at *
        obtain ⟨a, s2⟩ := Q
        clear hqi
        go_region_law
          (first
            | (refine step_onto_bind rfl _ _ rfl (w5.alloc (.cells #[.string (tx a.1), .slice ap0 np0 cp0, .int .i64 k1, .string nm1, .bool f1, .int .u64 u1, .slice ap1 np1 cp1, .slice ak1 nk1 ck1, .slice ab1 nb1 cb1, .slice aa1 na1 ca1] 36)) W.heap.size bs.length (.slice aa bs.length cc) cs rfl HO6.out w5.heap.size 1 [.string (tx a.1), .slice ap0 np0 cp0, .int .i64 k1, .string nm1, .bool f1, .int .u64 u1, .slice ap1 np1 cp1, .slice ak1 nk1 ck1, .slice ab1 nb1 cb1, .slice aa1 na1 ca1] _ rfl (own_built (cs := #[.string (tx a.1), .slice ap0 np0 cp0, .int .i64 k1, .string nm1, .bool f1, .int .u64 u1, .slice ap1 np1 cp1, .slice ak1 nk1 ck1, .slice ab1 nb1 cb1, .slice aa1 na1 ca1]) (heap_alloc_new _ _) Nr rfl (by decide)) HO1.out (by omega) HS6.out ?_; intro ao cap w9 hon; have hBq := boxw_o HB6.out hon.2.1 HVp.out; have qb6 := hBq.1 6 _ rfl; have zb6 := hBq.2 6; have H9 := Hd (Ai hon hBq); clear hon hBq)
            | (refine step_wanted rfl ?_; go_simp; go_at_call 36; refine (HCo.out _ (by first | exact Br | exact Br.drew | exact dbelow Br _)).mono ?_; rintro e w5 ⟨⟨vp0, k1, nm1, f1, u1, vq, vk, vb, va, rfl, hrow, hat⟩, hP5, hg5'⟩; obtain ⟨ap0, np0, cp0, rfl⟩ := hrow.slice; obtain ⟨⟨ap1, np1, cp1, rfl⟩, ⟨ak1, nk1, ck1, rfl⟩, ⟨ab1, nb1, cb1, rfl⟩, ⟨aa1, na1, ca1, rfl⟩⟩ := hat.slices; have hg5 : w22.grownBy w5 (some b) := Gt (grown_of (by first | exact Br | exact Br.drew | exact dbelow Br _)) hg5'; have hB5 := boxw_grown HBq.out hg5 (by omega); have q6 := hB5.1 6 _ rfl; have hy5 := (Below.refl w5.heap.size w5).alloc Nr (.cells #[.string (tx a.1), .slice ap0 np0 cp0, .int .i64 k1, .string nm1, .bool f1, .int .u64 u1, .slice ap1 np1 cp1, .slice ak1 nk1 ck1, .slice ab1 nb1 cb1, .slice aa1 na1 ca1] 36); have qc6 := (hB5.below hy5).1 6 _ rfl; have HB6 := Hd (hB5.below hy5); have HO6 := Hd (own_below (own_kept HOn.out hg5 (fun e => by have := HLw.out b e; omega)) hy5); have HO1 := Hd (show ∀ zz ∈ ([.string (tx a.1), .slice ap0 np0 cp0, .int .i64 k1, .string nm1, .bool f1, .int .u64 u1, .slice ap1 np1 cp1, .slice ak1 nk1 ck1, .slice ab1 nb1 cb1, .slice aa1 na1 ca1] : List Value), zz.oneCell' = true by intro z hz; simp at hz; rcases hz with rfl | rfl | rfl | rfl | rfl | rfl | rfl | rfl | rfl | rfl <;> rfl); have hs5 : w22.heap.size ≤ w5.heap.size := hg5.size; have HS6 := Hd (show W.heap.size ≤ (w5.alloc (.cells #[.string (tx a.1), .slice ap0 np0 cp0, .int .i64 k1, .string nm1, .bool f1, .int .u64 u1, .slice ap1 np1 cp1, .slice ak1 nk1 ck1, .slice ab1 nb1 cb1, .slice aa1 na1 ca1] 36)).heap.size by have := hy5.size; omega); have H6 := Hd (Ai (show PAt w5 b T s2 from hP5) (Ai hg5 (Ai (show RowAt w5 (fun g => w22.heap.size ≤ g) 9 1 (.slice ap0 np0 cp0) a.2.1.length (namesV a.2.1) from hrow) (Ai (show ExAt w5 (fun g => w22.heap.size ≤ g) a.2.2 _ from hat) hy5)))); clear hP5 hg5 hg5' hrow hat hy5 hB5))
        all_goals
          go_wp2_with fail
          obtain ⟨⟨o1, o2, o3⟩, hB9⟩ := H9.out
          obtain ⟨hP5, hg5, hrow, hat, hy5⟩ := H6.out
          have hs5 := hg5.size
          have hs6 := hy5.size
          have hlow9 : ∀ g, (Value.slice aa bs.length cc).ownBlock = some g → W.heap.size ≤ g := HLw.out
          have hlt9 : ∀ g, (Value.slice aa bs.length cc).ownBlock = some g → g < wr.heap.size := HLt.out
          obtain ⟨q, hq, hg9⟩ := grown_some (b := b) o2 (fun g e => by have := hlow9 g e; omega)
          have hs9 := hg9.size
          have hP9 := ((hP5.later hy5).past hg9 hq).over (p := (w3.heap.size + 1)) (i := 6) (by omega) (.slice ao (bs.length + 1) cap)
          have hG9 := grown_new (grown_past (Gt HHn.out.2 (Gt hg5 (grown_of hy5))) o2 hlow9) (p := (w3.heap.size + 1)) (i := 6) (by omega) (.slice ao (bs.length + 1) cap)
          have hvn : some (w3.heap.size + 1) ≠ (Value.slice ao (bs.length + 1) cap).ownBlock := fun e => by
            rcases o3 with h | h
            · exact HVp.out (e.trans h)
            · have h2 : w3.heap.size + 1 = (w5.alloc (.cells #[.string (tx a.1), .slice ap0 np0 cp0, .int .i64 k1, .string nm1, .bool f1, .int .u64 u1, .slice ap1 np1 cp1, .slice ak1 nk1 ck1, .slice ab1 nb1 cb1, .slice aa1 na1 ca1] 36)).heap.size := Oi (e.trans h)
              omega
          have hO9 := own_o o1 (set_grown w9 (w3.heap.size + 1) 6 (.slice ao (bs.length + 1) cap)) (fun g e e2 => hvn (e2.symm.trans e.symm))
          have hBf := hB9.set 6 (show 6 < 8 by decide) (.slice ao (bs.length + 1) cap)
          have hnw : ∀ g, g ≠ (w3.heap.size + 1) → (w9.setCell ⟨(w3.heap.size + 1), 6, none⟩ (.slice ao (bs.length + 1) cap)).heap[g]? = w9.heap[g]? := fun g h => Below.heap_setCell _ _ _ _ (by simp only; omega)
          have hln := HLT.out
          have hlm : mS s2 < mS s' := hln
          have hfu := HQ.out.1
          have hlq := HQ.out.2
          have hnv : ∀ g, g < w5.heap.size → some g ≠ (Value.slice aa bs.length cc).ownBlock → some g ≠ (Value.slice ao (bs.length + 1) cap).ownBlock := fun g h1 h2 e => by
            rcases o3 with h | h
            · exact h2 (e.trans h)
            · have h3 : g = (w5.alloc (.cells #[.string (tx a.1), .slice ap0 np0 cp0, .int .i64 k1, .string nm1, .bool f1, .int .u64 u1, .slice ap1 np1 cp1, .slice ak1 nk1 ck1, .slice ab1 nb1 cb1, .slice aa1 na1 ca1] 36)).heap.size := Oi (e.trans h)
              omega
          refine ⟨⟨s2, bs ++ [a], _, cs ++ [.string (tx a.1), .slice ap0 np0 cp0, .int .i64 k1, .string nm1, .bool f1, .int .u64 u1, .slice ap1 np1 cp1, .slice ak1 nk1 ck1, .slice ab1 nb1 cb1, .slice aa1 na1 ca1], fu', hP9, hG9, by omega, HN.out, by simp; omega, hBf, by simpa using hO9, ?_, hvn, by simp; omega⟩, by rw [hP9.m, HS0.out.m]; exact hlm⟩
          have hfar : ∀ g, w22.heap.size ≤ g → g < w5.heap.size → (W.heap.size ≤ g ∧ some g ≠ (Value.slice ao (bs.length + 1) cap).ownBlock ∧ g ≠ (w3.heap.size + 1)) ∧ (w9.setCell ⟨(w3.heap.size + 1), 6, none⟩ (.slice ao (bs.length + 1) cap)).heap[g]? = w5.heap[g]? := fun g h1 h2 => by
            have hne : some g ≠ (Value.slice aa bs.length cc).ownBlock := fun e => by have := hlt9 g e.symm; omega
            exact ⟨⟨by omega, hnv g h2 hne, by omega⟩, (hnw g (by omega)).trans ((o2.block g (by omega) hne).trans (hy5.block g h2))⟩
          refine BndsAt.snoc (HXb.out.move fun g hg lt => ?_) (hrow.move fun g hg lt => hfar g hg lt) (hat.move fun g hg lt => hfar g hg lt)
          exact ⟨⟨hg.1, hnv g (by omega) hg.2.1, hg.2.2⟩, (hnw g hg.2.2).trans ((o2.block g (by omega) hg.2.1).trans ((hy5.block g (by omega)).trans ((hg5.block g (by omega) (by have := hg.1; simp; omega)).trans ((HG22.out.block g (by omega) (by have := hg.1; simp; omega)).trans (HG21.out.block g lt (by have := hg.1; simp; omega))))))⟩
      · have hs' : seesL [59] s'.r = false := by simpa using hs
        rw [hs'] at hc
        have HC := Hd hc
        have HNs := Hd hs
        clear hc hs hs' ge
        go_wp2_with fail
        refine HC.out.mono ?_
        rintro e w21 ⟨rfl, hb⟩
        have HG21 := Hd (grown_of (b := b) hb)
        have hsz21 : wr.heap.size ≤ w21.heap.size := hb.size
        have H21 := Hd (Ai (H20.out.1.later hb) (Gt H20.out.2 HG21.out))
        clear HC hb
        replace HBq := Hd (boxw_grown HBq.out HG21.out (by omega))
        have HRn := Hd (own_kept HOb.out HG21.out (fun e => by have := HLw.out b e; omega))
        clear HOb
        have HOb := HRn
        clear HRn
        have hN := HM.out
        rw [more_no (fun h => HNs.out h.2)] at hN
        have HPw := Hd (show exprD (lastOf 1 T) (k + 1) s = (.mk 6 [] false 0 [] [((exprD (lastOf 1 T) k) (needD (lastOf 1 T) [105, 110] (s'))).1] bs [], ((exprD (lastOf 1 T) k) (needD (lastOf 1 T) [105, 110] (s'))).2) from by rw [HPu.out, ← hN])
        clear hN HPu
        have HKs := Hd (Ks.refl W.heap.size (w3.heap.size + 1) wr)
        have HVq := Hd (show ∀ g, (Value.slice aa bs.length cc).ownBlock = some g → g ≠ (w3.heap.size + 1) from fun g e h => HVp.out (by rw [e, h]))
        have HKn := Hd (HKs.out.trans (Ks.grown HG21.out (by omega)))
        clear HKs
        have HKs := HKn
        clear HKn
        go_wp2_with fail
        refine (dneed_any b T (s') [105, 110] w21 H21.out.1).mono ?_
        rintro e w22 ⟨rfl, hP, hg⟩
        have HG22 := Hd hg
        have hsz22 : w21.heap.size ≤ w22.heap.size := hg.size
        have H22 := Hd (Ai hP (Gt H21.out.2 hg))
        clear hP hg
        replace HBq := Hd (boxw_grown HBq.out HG22.out (by omega))
        have HKn := Hd (HKs.out.trans (Ks.grown HG22.out (by omega)))
        clear HKs
        have HKs := HKn
        clear HKn
        have HRn := Hd (own_kept HOb.out HG22.out (fun e => by have := HLw.out b e; omega))
        clear HOb
        have HOb := HRn
        clear HRn
        go_wp2_with fail
        refine (show Calls Try.prog 57 #[.pointer (some ⟨b, 0, none⟩), .int .i64 (201 - (k : Int))] w22 _ from hEx (needD (lastOf 1 T) [105, 110] (s')) w22 H22.out.1).mono ?_
        rintro e w23 ⟨⟨k0, nm, f, u, vp, vk, vb, va, rfl, hat⟩, hP, hg⟩
        have HG23 := Hd hg
        have hsz23 : w22.heap.size ≤ w23.heap.size := hg.size
        have H23 := Hd (Ai hP (Gt H22.out.2 hg))
        clear hP hg
        obtain ⟨⟨ap, np, cp, rfl⟩, ⟨ak, nk, ck, rfl⟩, ⟨ab, nb, cb, rfl⟩, ⟨a5, n5, c5, rfl⟩⟩ := hat.slices
        have HAx := Hd hat
        clear hat
        generalize (exprD (lastOf 1 T) k) (needD (lastOf 1 T) [105, 110] (s')) = Q at *
        obtain ⟨x, s3⟩ := Q
        replace HBq := Hd (boxw_grown HBq.out HG23.out (by omega))
        have HKn := Hd (HKs.out.trans (Ks.grown HG23.out (by omega)))
        clear HKs
        have HKs := HKn
        clear HKn
        have HRn := Hd (own_kept HOb.out HG23.out (fun e => by have := HLw.out b e; omega))
        clear HOb
        have HOb := HRn
        clear HRn
        have hy := (Below.refl w23.heap.size w23).alloc Nr (.cells #[.int .i64 k0, .string nm, .bool f, .int .u64 u, .slice ap np cp, .slice ak nk ck, .slice ab nb cb, .slice a5 n5 c5] 34)
        replace HBq := Hd (HBq.out.below hy)
        have HKd := Hd (own_built (W := (w23.alloc (.cells #[.int .i64 k0, .string nm, .bool f, .int .u64 u, .slice ap np cp, .slice ak nk ck, .slice ab nb cb, .slice a5 n5 c5] 34))) (g := w23.heap.size) (base := w23.heap.size) (e := 34) (size := 8) (n := 1) (cs := #[.int .i64 k0, .string nm, .bool f, .int .u64 u, .slice ap np cp, .slice ak nk ck, .slice ab nb cb, .slice a5 n5 c5]) (heap_alloc_new _ _) Nr rfl (by decide))
        have HG24 := Hd (grown_of (b := b) hy)
        have hsz24 : w23.heap.size + 1 ≤ (w23.alloc (.cells #[.int .i64 k0, .string nm, .bool f, .int .u64 u, .slice ap np cp, .slice ak nk ck, .slice ab nb cb, .slice a5 n5 c5] 34)).heap.size := by simp
        have H24 := Hd (Ai (H23.out.1.later hy) (Gt H23.out.2 HG24.out))
        have HRn := Hd (own_below HOb.out hy)
        clear HOb
        have HOb := HRn
        clear HRn
        clear hy
        have q5 : (w23.alloc (.cells #[.int .i64 k0, .string nm, .bool f, .int .u64 u, .slice ap np cp, .slice ak nk ck, .slice ab nb cb, .slice a5 n5 c5] 34)).cell? ⟨(w3.heap.size + 1), 5, none⟩ = some _ := HBq.out.1 5 _ rfl
        have z5 : (w23.alloc (.cells #[.int .i64 k0, .string nm, .bool f, .int .u64 u, .slice ap np cp, .slice ak nk ck, .slice ab nb cb, .slice a5 n5 c5] 34)).frozen? ⟨(w3.heap.size + 1), 5, none⟩ = false := HBq.out.2 5
        go_upto_region 16 with fail
        generalize hWA : (w23.alloc (.cells #[.int .i64 k0, .string nm, .bool f, .int .u64 u, .slice ap np cp, .slice ak nk ck, .slice ab nb cb, .slice a5 n5 c5] 34)) = WA at *
        clear hWA
        have HBn := Hd (show BoxW (WA.setCell ⟨(w3.heap.size + 1), 5, none⟩ (.slice (some ⟨w23.heap.size, 0, none⟩) 1 1)) (w3.heap.size + 1) [.int .i64 6, .string ⟨#[]⟩, .bool false, .int .u64 0, .slice none 0 0, .slice (some ⟨w23.heap.size, 0, none⟩) 1 1, .slice aa bs.length cc, .slice none 0 0] from (HBq.out).set 5 (show 5 < 8 by decide) (.slice (some ⟨w23.heap.size, 0, none⟩) 1 1))
        have H25 := Hd (Ai (show PAt (WA.setCell ⟨(w3.heap.size + 1), 5, none⟩ (.slice (some ⟨w23.heap.size, 0, none⟩) 1 1)) b T (s3) from (H24.out.1).over (show b < (w3.heap.size + 1) by omega) _) (show W.grownBy (WA.setCell ⟨(w3.heap.size + 1), 5, none⟩ (.slice (some ⟨w23.heap.size, 0, none⟩) 1 1)) (some b) from (grown_new H24.out.2 (show W.heap.size ≤ (w3.heap.size + 1) by omega) _)))
        have HK25 := Hd (show ∀ lo hi, (w3.heap.size + 1) < lo → Kp lo hi WA (WA.setCell ⟨(w3.heap.size + 1), 5, none⟩ (.slice (some ⟨w23.heap.size, 0, none⟩) 1 1)) from fun lo hi h => (Kp.set _ _ _ _ (Or.inl h)))
        have hsz25 : WA.heap.size ≤ (WA.setCell ⟨(w3.heap.size + 1), 5, none⟩ (.slice (some ⟨w23.heap.size, 0, none⟩) 1 1)).heap.size := by simp
        have HS25 := Hd (show Ks W.heap.size (w3.heap.size + 1) WA (WA.setCell ⟨(w3.heap.size + 1), 5, none⟩ (.slice (some ⟨w23.heap.size, 0, none⟩) 1 1)) from (Ks.set _ _ _ _ (Or.inl rfl)))
        have HRn := Hd (own_o HOb.out (set_grown _ (w3.heap.size + 1) 5 (.slice (some ⟨w23.heap.size, 0, none⟩) 1 1)) (fun g e e2 => by have := HVq.out g e; have := Oi e2; omega))
        clear HOb
        have HOb := HRn
        clear HRn
        have HRn := Hd (own_o HKd.out (set_grown _ (w3.heap.size + 1) 5 (.slice (some ⟨w23.heap.size, 0, none⟩) 1 1)) (fun g e e2 => by have := (HKd.out.lt g e).1; have := Oi e2; omega))
        clear HKd
        have HKd := HRn
        clear HRn
        clear HBq q5 z5
        have HBq := HBn
        clear HBn
        generalize (WA.setCell ⟨(w3.heap.size + 1), 5, none⟩ (.slice (some ⟨w23.heap.size, 0, none⟩) 1 1)) = w25 at *
        have HKn := Hd (HKs.out.trans (Ks.grown HG24.out (by omega)))
        clear HKs
        have HKs := HKn
        clear HKn
        have HKn := Hd (HKs.out.trans (HS25.out))
        clear HKs
        have HKs := HKn
        clear HKn
        have HPv := Hd (show exprD (lastOf 1 T) (k + 1) s = (.mk 6 [] false 0 [] [x] bs [], s3) from HPw.out)
        obtain ⟨q0, q1, q2, q3, q4, q5, q6, q7⟩ := (HBq.out).q8
        have hBp := boxw_grown HX.out.2 H25.out.2 (by omega)
        obtain ⟨d0, d1, d2, d3, d4, d5, d6, d7⟩ := (hBp).q8
        obtain ⟨z0, z1, z2, z3, z4, z5, z6, z7⟩ := (hBp).z8
        have HBp := Hd hBp
        clear hBp
        go_wp2_with fail
        have hF := ((HBp.out).b8v (.int .i64 6) (.string ⟨#[]⟩) (.bool false) (.int .u64 0) (.slice none 0 0) (.slice (some ⟨w23.heap.size, 0, none⟩) 1 1) (.slice aa bs.length cc) (.slice none 0 0))
        have v0 := hF.1 0 _ rfl
        have v1 := hF.1 1 _ rfl
        have v2 := hF.1 2 _ rfl
        have v3 := hF.1 3 _ rfl
        have v4 := hF.1 4 _ rfl
        have v5 := hF.1 5 _ rfl
        have v6 := hF.1 6 _ rfl
        have v7 := hF.1 7 _ rfl
        refine bodyPost_ret (v := .agg #[.int .i64 6, .string ⟨#[]⟩, .bool false, .int .u64 0, .slice none 0 0, .slice (some ⟨w23.heap.size, 0, none⟩) 1 1, .slice aa bs.length cc, .slice none 0 0]) (by simp [results, Try.results57, go_sem, v0, v1, v2, v3, v4, v5, v6, v7]) rfl ?_
        rw [HPv.out]
        refine ⟨⟨_, _, _, _, _, _, _, _, rfl, .mk 6 [] false 0 [] [x] bs [] _ _ (.slice aa bs.length cc) _ [.int .i64 k0, .string nm, .bool f, .int .u64 u, .slice ap np cp, .slice ak nk ck, .slice ab nb cb, .slice a5 n5 c5] cs [] (RowAt.nil _ _ _ _) ((RowAt.own HKd.out).kp (lo' := w.heap.size) ((Kp.s8 (Or.inl (by omega)))) (by omega)) ((RowAt.own HOb.out).kp (lo' := w.heap.size) ((Kp.s8 (Or.inl (by omega)))) (by omega)) (RowAt.nil _ _ _ _) (ExsAt.cons x [] [.int .i64 k0, .string nm, .bool f, .int .u64 u, .slice ap np cp, .slice ak nk ck, .slice ab nb cb, .slice a5 n5 c5] [] (HAx.out.kp (lo' := w.heap.size) ((((Kp.grown HG24.out (by omega) (by omega)).trans (HK25.out _ _ (by omega)))).trans ((Kp.s8 (Or.inl (by omega))))) (by omega)) .nil) (HXb.out.move fun g hg lt => ⟨Nt (by omega) hg.1, (HKs.out.trans ((((((((Ks.set _ _ _ _ (Or.inr (by omega))).trans (Ks.set _ _ _ _ (Or.inr (by omega)))).trans (Ks.set _ _ _ _ (Or.inr (by omega)))).trans (Ks.set _ _ _ _ (Or.inr (by omega)))).trans (Ks.set _ _ _ _ (Or.inr (by omega)))).trans (Ks.set _ _ _ _ (Or.inr (by omega)))).trans (Ks.set _ _ _ _ (Or.inr (by omega)))).trans (Ks.set _ _ _ _ (Or.inr (by omega))))).2 g hg.1 hg.2.2 lt⟩) .nil⟩, ((((((((H25.out.1).over hlt _).over hlt _).over hlt _).over hlt _).over hlt _).over hlt _).over hlt _).over hlt _, (grown_new (grown_new (grown_new (grown_new (grown_new (grown_new (grown_new (grown_new (Gt (grown_of (b := b) HX.out.1) H25.out.2) Nr _) Nr _) Nr _) Nr _) Nr _) Nr _) Nr _) Nr _)⟩
    · have f1 : (s'.e == 0) = false := by simp [ge]
      have HGe := Hd ge
      clear ge
      have hN := HM.out
      rw [more_no (fun h => HGe.out h.1)] at hN
      have HPw := Hd (show exprD (lastOf 1 T) (k + 1) s = (.mk 6 [] false 0 [] [((exprD (lastOf 1 T) k) (needD (lastOf 1 T) [105, 110] (s'))).1] bs [], ((exprD (lastOf 1 T) k) (needD (lastOf 1 T) [105, 110] (s'))).2) from by rw [HPu.out, ← hN])
      clear hN HPu
      have HKs := Hd (Ks.refl W.heap.size (w3.heap.size + 1) wr)
      have HVq := Hd (show ∀ g, (Value.slice aa bs.length cc).ownBlock = some g → g ≠ (w3.heap.size + 1) from fun g e h => HVp.out (by rw [e, h]))
      go_wp2_with fail
      refine (dneed_any b T (s') [105, 110] wr H20.out.1).mono ?_
      rintro e w21 ⟨rfl, hP, hg⟩
      have HG21 := Hd hg
      have hsz21 : wr.heap.size ≤ w21.heap.size := hg.size
      have H21 := Hd (Ai hP (Gt H20.out.2 hg))
      clear hP hg
      replace HBq := Hd (boxw_grown HBq.out HG21.out (by omega))
      have HKn := Hd (HKs.out.trans (Ks.grown HG21.out (by omega)))
      clear HKs
      have HKs := HKn
      clear HKn
      have HRn := Hd (own_kept HOb.out HG21.out (fun e => by have := HLw.out b e; omega))
      clear HOb
      have HOb := HRn
      clear HRn
      go_wp2_with fail
      refine (show Calls Try.prog 57 #[.pointer (some ⟨b, 0, none⟩), .int .i64 (201 - (k : Int))] w21 _ from hEx (needD (lastOf 1 T) [105, 110] (s')) w21 H21.out.1).mono ?_
      rintro e w22 ⟨⟨k0, nm, f, u, vp, vk, vb, va, rfl, hat⟩, hP, hg⟩
      have HG22 := Hd hg
      have hsz22 : w21.heap.size ≤ w22.heap.size := hg.size
      have H22 := Hd (Ai hP (Gt H21.out.2 hg))
      clear hP hg
      obtain ⟨⟨ap, np, cp, rfl⟩, ⟨ak, nk, ck, rfl⟩, ⟨ab, nb, cb, rfl⟩, ⟨a5, n5, c5, rfl⟩⟩ := hat.slices
      have HAx := Hd hat
      clear hat
      generalize (exprD (lastOf 1 T) k) (needD (lastOf 1 T) [105, 110] (s')) = Q at *
      obtain ⟨x, s3⟩ := Q
      replace HBq := Hd (boxw_grown HBq.out HG22.out (by omega))
      have HKn := Hd (HKs.out.trans (Ks.grown HG22.out (by omega)))
      clear HKs
      have HKs := HKn
      clear HKn
      have HRn := Hd (own_kept HOb.out HG22.out (fun e => by have := HLw.out b e; omega))
      clear HOb
      have HOb := HRn
      clear HRn
      have hy := (Below.refl w22.heap.size w22).alloc Nr (.cells #[.int .i64 k0, .string nm, .bool f, .int .u64 u, .slice ap np cp, .slice ak nk ck, .slice ab nb cb, .slice a5 n5 c5] 34)
      replace HBq := Hd (HBq.out.below hy)
      have HKd := Hd (own_built (W := (w22.alloc (.cells #[.int .i64 k0, .string nm, .bool f, .int .u64 u, .slice ap np cp, .slice ak nk ck, .slice ab nb cb, .slice a5 n5 c5] 34))) (g := w22.heap.size) (base := w22.heap.size) (e := 34) (size := 8) (n := 1) (cs := #[.int .i64 k0, .string nm, .bool f, .int .u64 u, .slice ap np cp, .slice ak nk ck, .slice ab nb cb, .slice a5 n5 c5]) (heap_alloc_new _ _) Nr rfl (by decide))
      have HG23 := Hd (grown_of (b := b) hy)
      have hsz23 : w22.heap.size + 1 ≤ (w22.alloc (.cells #[.int .i64 k0, .string nm, .bool f, .int .u64 u, .slice ap np cp, .slice ak nk ck, .slice ab nb cb, .slice a5 n5 c5] 34)).heap.size := by simp
      have H23 := Hd (Ai (H22.out.1.later hy) (Gt H22.out.2 HG23.out))
      have HRn := Hd (own_below HOb.out hy)
      clear HOb
      have HOb := HRn
      clear HRn
      clear hy
      have q5 : (w22.alloc (.cells #[.int .i64 k0, .string nm, .bool f, .int .u64 u, .slice ap np cp, .slice ak nk ck, .slice ab nb cb, .slice a5 n5 c5] 34)).cell? ⟨(w3.heap.size + 1), 5, none⟩ = some _ := HBq.out.1 5 _ rfl
      have z5 : (w22.alloc (.cells #[.int .i64 k0, .string nm, .bool f, .int .u64 u, .slice ap np cp, .slice ak nk ck, .slice ab nb cb, .slice a5 n5 c5] 34)).frozen? ⟨(w3.heap.size + 1), 5, none⟩ = false := HBq.out.2 5
      go_upto_region 16 with fail
      generalize hWA : (w22.alloc (.cells #[.int .i64 k0, .string nm, .bool f, .int .u64 u, .slice ap np cp, .slice ak nk ck, .slice ab nb cb, .slice a5 n5 c5] 34)) = WA at *
      clear hWA
      have HBn := Hd (show BoxW (WA.setCell ⟨(w3.heap.size + 1), 5, none⟩ (.slice (some ⟨w22.heap.size, 0, none⟩) 1 1)) (w3.heap.size + 1) [.int .i64 6, .string ⟨#[]⟩, .bool false, .int .u64 0, .slice none 0 0, .slice (some ⟨w22.heap.size, 0, none⟩) 1 1, .slice aa bs.length cc, .slice none 0 0] from (HBq.out).set 5 (show 5 < 8 by decide) (.slice (some ⟨w22.heap.size, 0, none⟩) 1 1))
      have H24 := Hd (Ai (show PAt (WA.setCell ⟨(w3.heap.size + 1), 5, none⟩ (.slice (some ⟨w22.heap.size, 0, none⟩) 1 1)) b T (s3) from (H23.out.1).over (show b < (w3.heap.size + 1) by omega) _) (show W.grownBy (WA.setCell ⟨(w3.heap.size + 1), 5, none⟩ (.slice (some ⟨w22.heap.size, 0, none⟩) 1 1)) (some b) from (grown_new H23.out.2 (show W.heap.size ≤ (w3.heap.size + 1) by omega) _)))
      have HK24 := Hd (show ∀ lo hi, (w3.heap.size + 1) < lo → Kp lo hi WA (WA.setCell ⟨(w3.heap.size + 1), 5, none⟩ (.slice (some ⟨w22.heap.size, 0, none⟩) 1 1)) from fun lo hi h => (Kp.set _ _ _ _ (Or.inl h)))
      have hsz24 : WA.heap.size ≤ (WA.setCell ⟨(w3.heap.size + 1), 5, none⟩ (.slice (some ⟨w22.heap.size, 0, none⟩) 1 1)).heap.size := by simp
      have HS24 := Hd (show Ks W.heap.size (w3.heap.size + 1) WA (WA.setCell ⟨(w3.heap.size + 1), 5, none⟩ (.slice (some ⟨w22.heap.size, 0, none⟩) 1 1)) from (Ks.set _ _ _ _ (Or.inl rfl)))
      have HRn := Hd (own_o HOb.out (set_grown _ (w3.heap.size + 1) 5 (.slice (some ⟨w22.heap.size, 0, none⟩) 1 1)) (fun g e e2 => by have := HVq.out g e; have := Oi e2; omega))
      clear HOb
      have HOb := HRn
      clear HRn
      have HRn := Hd (own_o HKd.out (set_grown _ (w3.heap.size + 1) 5 (.slice (some ⟨w22.heap.size, 0, none⟩) 1 1)) (fun g e e2 => by have := (HKd.out.lt g e).1; have := Oi e2; omega))
      clear HKd
      have HKd := HRn
      clear HRn
      clear HBq q5 z5
      have HBq := HBn
      clear HBn
      generalize (WA.setCell ⟨(w3.heap.size + 1), 5, none⟩ (.slice (some ⟨w22.heap.size, 0, none⟩) 1 1)) = w24 at *
      have HKn := Hd (HKs.out.trans (Ks.grown HG23.out (by omega)))
      clear HKs
      have HKs := HKn
      clear HKn
      have HKn := Hd (HKs.out.trans (HS24.out))
      clear HKs
      have HKs := HKn
      clear HKn
      have HPv := Hd (show exprD (lastOf 1 T) (k + 1) s = (.mk 6 [] false 0 [] [x] bs [], s3) from HPw.out)
      obtain ⟨q0, q1, q2, q3, q4, q5, q6, q7⟩ := (HBq.out).q8
      have hBp := boxw_grown HX.out.2 H24.out.2 (by omega)
      obtain ⟨d0, d1, d2, d3, d4, d5, d6, d7⟩ := (hBp).q8
      obtain ⟨z0, z1, z2, z3, z4, z5, z6, z7⟩ := (hBp).z8
      have HBp := Hd hBp
      clear hBp
      go_wp2_with fail
      have hF := ((HBp.out).b8v (.int .i64 6) (.string ⟨#[]⟩) (.bool false) (.int .u64 0) (.slice none 0 0) (.slice (some ⟨w22.heap.size, 0, none⟩) 1 1) (.slice aa bs.length cc) (.slice none 0 0))
      have v0 := hF.1 0 _ rfl
      have v1 := hF.1 1 _ rfl
      have v2 := hF.1 2 _ rfl
      have v3 := hF.1 3 _ rfl
      have v4 := hF.1 4 _ rfl
      have v5 := hF.1 5 _ rfl
      have v6 := hF.1 6 _ rfl
      have v7 := hF.1 7 _ rfl
      refine bodyPost_ret (v := .agg #[.int .i64 6, .string ⟨#[]⟩, .bool false, .int .u64 0, .slice none 0 0, .slice (some ⟨w22.heap.size, 0, none⟩) 1 1, .slice aa bs.length cc, .slice none 0 0]) (by simp [results, Try.results57, go_sem, v0, v1, v2, v3, v4, v5, v6, v7]) rfl ?_
      rw [HPv.out]
      refine ⟨⟨_, _, _, _, _, _, _, _, rfl, .mk 6 [] false 0 [] [x] bs [] _ _ (.slice aa bs.length cc) _ [.int .i64 k0, .string nm, .bool f, .int .u64 u, .slice ap np cp, .slice ak nk ck, .slice ab nb cb, .slice a5 n5 c5] cs [] (RowAt.nil _ _ _ _) ((RowAt.own HKd.out).kp (lo' := w.heap.size) ((Kp.s8 (Or.inl (by omega)))) (by omega)) ((RowAt.own HOb.out).kp (lo' := w.heap.size) ((Kp.s8 (Or.inl (by omega)))) (by omega)) (RowAt.nil _ _ _ _) (ExsAt.cons x [] [.int .i64 k0, .string nm, .bool f, .int .u64 u, .slice ap np cp, .slice ak nk ck, .slice ab nb cb, .slice a5 n5 c5] [] (HAx.out.kp (lo' := w.heap.size) ((((Kp.grown HG23.out (by omega) (by omega)).trans (HK24.out _ _ (by omega)))).trans ((Kp.s8 (Or.inl (by omega))))) (by omega)) .nil) (HXb.out.move fun g hg lt => ⟨Nt (by omega) hg.1, (HKs.out.trans ((((((((Ks.set _ _ _ _ (Or.inr (by omega))).trans (Ks.set _ _ _ _ (Or.inr (by omega)))).trans (Ks.set _ _ _ _ (Or.inr (by omega)))).trans (Ks.set _ _ _ _ (Or.inr (by omega)))).trans (Ks.set _ _ _ _ (Or.inr (by omega)))).trans (Ks.set _ _ _ _ (Or.inr (by omega)))).trans (Ks.set _ _ _ _ (Or.inr (by omega)))).trans (Ks.set _ _ _ _ (Or.inr (by omega))))).2 g hg.1 hg.2.2 lt⟩) .nil⟩, ((((((((H24.out.1).over hlt _).over hlt _).over hlt _).over hlt _).over hlt _).over hlt _).over hlt _).over hlt _, (grown_new (grown_new (grown_new (grown_new (grown_new (grown_new (grown_new (grown_new (Gt (grown_of (b := b) HX.out.1) H24.out.2) Nr _) Nr _) Nr _) Nr _) Nr _) Nr _) Nr _) Nr _)⟩
theorem outEs_flat (bd : List Nm) : ∀ (l : List Ex), outEs bd l = l.flatMap (outE bd)
  | [] => by unfold outEs; rfl
  | e :: r => by unfold outEs; rw [outEs_flat bd r]; rfl
theorem outBs_flat (bd : List Nm) : ∀ (l : List Bnd), outBs bd l = l.flatMap fun b => outE (bd ++ b.2.1) b.2.2
  | [] => by unfold outBs; rfl
  | (n, ps, e) :: r => by unfold outBs; rw [outBs_flat bd r]; rfl
def outA (bd : List Nm) (a : Alt) : List Nm := if a.1 = 0 then outE (bd ++ a.2.2.2.2.1) a.2.2.2.2.2 else if a.1 = 2 then outE (bd ++ [a.2.1]) a.2.2.2.2.2 else outE bd a.2.2.2.2.2
theorem outAs_flat (bd : List Nm) : ∀ (l : List Alt), outAs bd l = l.flatMap (outA bd)
  | [] => by unfold outAs; rfl
  | (k, n, f, x, ns, e) :: r => by unfold outAs; rw [outAs_flat bd r]; rfl
mutual
theorem outE_len : ∀ (e : Ex) (bd : List Nm), (outE bd e).length ≤ wtE e
  | .mk k n f x ps ks bs al, bd => by
    unfold outE wtE
    have h1 := outEs_len ks bd
    have h2 := outEs_len ks (bd ++ bNames bs)
    have h3 := outEs_len ks (bd ++ ps)
    have h4 := outBs_len bs (bd ++ bNames bs)
    have h5 := outAs_len al bd
    by_cases g1 : k = 1
    · rw [if_pos g1, if_pos g1]
      split
      · exact Nat.zero_le _
      · simp only [List.length_cons, List.length_nil]; omega
    rw [if_neg g1]
    split
    · rw [List.length_append]; omega
    split
    · rw [List.length_append]; omega
    split <;> omega
theorem outEs_len : ∀ (l : List Ex) (bd : List Nm), (outEs bd l).length ≤ wtEs l
  | [], _ => by unfold outEs; exact Nat.zero_le _
  | e :: r, bd => by
    unfold outEs wtEs
    have h1 := outE_len e bd
    have h2 := outEs_len r bd
    rw [List.length_append]; omega
theorem outBs_len : ∀ (l : List (Nm × List Nm × Ex)) (bd : List Nm), (outBs bd l).length ≤ wtBs l
  | [], _ => by unfold outBs; exact Nat.zero_le _
  | (n, ps, e) :: r, bd => by
    unfold outBs wtBs
    have h1 := outE_len e (bd ++ ps)
    have h2 := outBs_len r bd
    rw [List.length_append]; omega
theorem outAs_len : ∀ (l : List (Int × Nm × Bool × Int × List Nm × Ex)) (bd : List Nm), (outAs bd l).length ≤ wtAs l
  | [], _ => by unfold outAs; exact Nat.zero_le _
  | (k, n, f, x, ns, e) :: r, bd => by
    unfold outAs wtAs
    have h1 := outE_len e (bd ++ ns)
    have h2 := outE_len e (bd ++ [n])
    have h3 := outE_len e bd
    have h4 := outAs_len r bd
    rw [List.length_append]
    split
    · omega
    split <;> omega
end
theorem outA_len (bd : List Nm) (a : Alt) : (outA bd a).length ≤ nA a := by
  unfold outA nA
  have h1 := outE_len a.2.2.2.2.2 (bd ++ a.2.2.2.2.1)
  have h2 := outE_len a.2.2.2.2.2 (bd ++ [a.2.1])
  have h3 := outE_len a.2.2.2.2.2 bd
  split
  · omega
  split <;> omega
theorem dedup_set {dom q F : List Nm} (h : dedup dom q = dom ++ F) : SetEq (dom ++ F) (dom ++ q) := fun x => by
  rw [← h, dedup_mem, List.mem_append]
theorem wo_back {dom q F : List Nm} (h : dedup dom q = dom ++ F) (hF : ∀ x, x ∈ F → x ∈ q ∧ x ∉ dom) : SetEq (wo (dom ++ q) F) dom := fun x => by
  rw [wo_mem, ← dedup_set h x, List.mem_append]
  constructor
  · rintro ⟨h | h, g⟩
    · exact h
    · exact absurd h g
  · exact fun h => ⟨Or.inl h, fun g => (hF x g).2 h⟩
theorem every_exs {M : Nat → Prop} {z l : Nat} {J : Option Nat → List Nm → World → Prop} (T : Teller M z l J) (n : Nat) (hP : VarC M z l J n) (b ns : Nat) (dom : List Nm) (L : List Ex) (hs : ∀ y, y ∈ L → SizeOf.sizeOf y ≤ n) (hw : ∀ y, y ∈ L → wvE y) (hn : ns + sumN wtE L ≤ 100000) (a : Option Addr) (c : Nat) (xs : List Value) (r : Option Nat) (pre : List Nm) (w : World) (hp : pre.length + sumN wtE L ≤ 100000) (hA : At z J b ns dom r pre w) (hr : RowAt w (Mine M z (some b) r) 34 8 (.slice a L.length c) L.length xs) (ht : ExsAt w M L xs) :
    Calls Try.prog 42 #[.slice a L.length c, .func (.func 43) #[.agg #[.map (some b), .func (.yield l) #[] #[]]] #[]] w (VarSaid M z J b (ns + sumN wtE L) dom r (pre ++ outEs dom L) w) := by
  rw [outEs_flat]
  exact every_ex T 43 (enters_of Try.func43 (by kernel_rfl) rfl) b ns dom (outE dom) wtE L (fun x _ => outE_len x dom) a c xs r pre w hA hn hp hr ht
    fun j hj k nm f u ap np cp ak nk ck ab nb cb aa na ca r' pre' ns' W hA h1 h2 hE => hP L[j] r' pre' W b ns' dom k nm f u ap np cp ak nk ck ab nb cb aa na ca (hs _ (List.getElem_mem hj)) (hw _ (List.getElem_mem hj)) h1 h2 hA hE
theorem vunder_any {M : Nat → Prop} {z l : Nat} {J : Option Nat → List Nm → World → Prop} (T : Teller M z l J) (n : Nat) (hP : VarC M z l J n) (b ns : Nat) (dom q : List Nm) (of : List Ex) (hq : ∀ x, x ∈ q → x.length ≤ 140737488355328) (hof : ∀ x, x ∈ of → SizeOf.sizeOf x ≤ n ∧ wvE x) (hn : ns + q.length + sumN wtE of ≤ 100000) (a1 : Option Addr) (c1 : Nat) (a2 : Option Addr) (c2 : Nat) (xs : List Value) (r : Option Nat) (pre : List Nm) (w : World) (hp : pre.length + sumN wtE of ≤ 100000) (hA : At z J b ns dom r pre w) (hr : RowAt w (Mine M z (some b) r) 9 1 (.slice a1 q.length c1) q.length (namesV q)) (hr2 : RowAt w (Mine M z (some b) r) 34 8 (.slice a2 of.length c2) of.length xs) (ht : ExsAt w M of xs) :
    Calls Try.prog 30 #[.agg #[.map (some b), .func (.yield l) #[] #[]], .slice a1 q.length c1, .slice a2 of.length c2] w (VarSaid M z J b (ns + q.length + sumN wtE of) dom r (pre ++ outEs (dom ++ q) of) w) := by
  have hx := (Below.refl w.heap.size w).alloc Nr (.cells #[.map (some b), .func (.yield l) #[] #[]] 72)
  have hB := BoxW.alloc w #[.map (some b), .func (.yield l) #[] #[]] 72
  have HBd := Hd (fun (W : World) (hb : Below w.heap.size w W) => bind_any b ns dom q hq (by omega) (.func (.yield l) #[] #[]) a1 c1 (Mine M z (some b) r) (fun g hg e => hg.2.1 (by rw [e])) W (hA.below T hb).set (hr.step (Step.below hb)))
  have HX := Hd (Ai hx hB)
  have HO := Hd (Ai hA (Ai hr2 ht))
  have HOf := Hd hof
  clear hx hA hr hr2 ht hof hB
  go_enter_defers Try.func30, Try.ntmps30
  go_upto_region 1 with fail
  generalize (w.alloc (.cells #[.map (some b), .func (.yield l) #[] #[]] 72)) = W at *
  have d0 : W.cell? ⟨w.heap.size, 0, none⟩ = some (.map (some b)) := HX.out.2.1 0 _ rfl
  have d1 : W.cell? ⟨w.heap.size, 1, none⟩ = some (.func (.yield l) #[] #[]) := HX.out.2.1 1 _ rfl
  have hlt := HO.out.1.set.lt
  have hzW := HX.out.1.size
  go_region_held3 (fun W' => W'.cell? ⟨w.heap.size, 0, none⟩ = some (.map (some b)) ∧ W'.cell? ⟨w.heap.size, 1, none⟩ = some (.func (.yield l) #[] #[])) (first | exact ⟨k0, k1⟩ | exact ⟨d0, d1⟩ | go_keep) (
    (go_at_call 41
     refine (HBd.out _ ?hb).mono ?_
     case hb => first | exact HX.out.1.drew | exact HX.out.1
     rintro e w2 ⟨F, v, rfl, hF1, hF2, hF3, hF4, hF5, hF6⟩
     have k0 : w2.cell? ⟨w.heap.size, 0, none⟩ = some (.map (some b)) := hF6.cell (show W.drew.cell? _ = _ from d0) (by simp; omega)
     have k1 : w2.cell? ⟨w.heap.size, 1, none⟩ = some (.func (.yield l) #[] #[]) := hF6.cell (show W.drew.cell? _ = _ from d1) (by simp; omega)))
  obtain ⟨av, cv, rfl, hlow⟩ := own_shape hF4
  have hli := T.lies r pre w HO.out.1.j
  have S2 : Step M z (some b) r w r w2 := (Step.below HX.out.1.drew).trans (Step.grown hF6)
  have hA2 : At z J b (ns + q.length) (dom ++ q) r pre w2 := HO.out.1.said (T.grown (T.below HO.out.1.j HX.out.1.drew) HO.out.1.zb HO.out.1.ne hF6) S2 (hF5.eq (dedup_set hF1))
  have hrow : RowAt w2 (Mine M z (some b) r) 9 1 (.slice av F.length cv) F.length (namesV F) := (RowAt.at_own hF4).move fun g hk lt => ⟨⟨Or.inr (by have := hk.1; have : W.drew.heap.size = W.heap.size := rfl; have := hli.1; omega), fun e => by have := Oi e; have := hk.1; have : W.drew.heap.size = W.heap.size := rfl; omega, fun e => by have := hli.2 g e.symm; have := hk.1; have : W.drew.heap.size = W.heap.size := rfl; omega⟩, rfl⟩
  have HE := Hd (every_exs T n hP b (ns + q.length) (dom ++ q) of (fun y hy => (HOf.out y hy).1) (fun y hy => (HOf.out y hy).2) hn a2 c2 xs r pre w2 hp hA2 (HO.out.2.1.step S2) (T.exs HO.out.1.j HO.out.1.zb S2 HO.out.2.2))
  have H2 := Hd (Ai S2 (Ai hrow (Ai hF1 (Ai hF3 hA2))))
  clear S2 hrow hF1 hF3 hA2 hF4 hF5 hF6 hlow hli HBd
  have hmf := func_made
  go_wp2_with fail
  refine HE.out.mono ?_
  rintro e w3 ⟨rfl, r3, j3, s3, n3⟩
  have hA3 := H2.out.2.2.2.2.said j3 s3 n3
  have HD := Hd (unbind_d b (ns + q.length + sumN wtE of) (dom ++ q) F (fun x hx => hq x (H2.out.2.2.2.1 x hx).1) (by omega) (.func (.yield l) #[] #[]) .returning av cv (Mine M z (some b) r3) (fun g hg e => hg.2.1 (by rw [e])) w3 n3 (H2.out.2.1.step s3))
  have H3 := Hd (Ai s3 hA3)
  clear j3 s3 n3 hA3 HE
  go_wp2_with fail
  refine leaves_cons (f := 40) (args := #[.agg #[.map (some b), .func (.yield l) #[] #[]], .slice av F.length cv]) (by simp) (by simp [go_sem]) ?_
  refine HD.out.mono ?_
  rintro e u' w4 ⟨rfl, ⟨v, rfl⟩, hs4, hg4⟩
  exact ⟨_, results_tmp rfl _ _ _, rfl, r3, T.grown H3.out.2.j HO.out.1.zb H3.out.2.ne hg4, (H2.out.1.trans H3.out.1).trans (Step.grown hg4), hs4.eq (wo_back H2.out.2.2.1 H2.out.2.2.2.1)⟩
theorem outEs_one (bd : List Nm) (e : Ex) : outEs bd [e] = outE bd e := by rw [outEs_cons, outEs_nil, List.append_nil]
theorem mine_new {M : Nat → Prop} {z l : Nat} {J : Option Nat → List Nm → World → Prop} (T : Teller M z l J) {b ns : Nat} {dom : List Nm} {r : Option Nat} {pre : List Nm} {w : World} (hA : At z J b ns dom r pre w) {g : Nat} (hg : w.heap.size ≤ g) : Mine M z (some b) r g :=
  ⟨Or.inr (Nt (T.lies r pre w hA.j).1 hg), fun e => by have := Oi e; have := hA.set.lt; omega, fun e => by have := (T.lies r pre w hA.j).2 g e.symm; omega⟩
theorem RowAt.only {W : World} {K K' : Nat → Prop} {e : TypeId} {size n B o c : Nat} {xs : List Value} (h : RowAt W K e size (.slice (some ⟨B, o, none⟩) n c) n xs) (hk : K' B) : RowAt W K' e size (.slice (some ⟨B, o, none⟩) n c) n xs := by
  obtain ⟨h0, ⟨h1, h2⟩ | ⟨g, o', c', cur, h1, -, h3⟩⟩ := h
  · cases h1
  · cases h1
    exact ⟨h0, Or.inr ⟨B, o, c, cur, rfl, hk, h3⟩⟩
theorem vunder_one {M : Nat → Prop} {z l : Nat} {J : Option Nat → List Nm → World → Prop} (T : Teller M z l J) (n : Nat) (hP : VarC M z l J n) (b ns : Nat) (dom : List Nm) (q : List Nm) (x : Ex) (hq : ∀ y, y ∈ q → y.length ≤ 140737488355328) (hx : SizeOf.sizeOf x ≤ n ∧ wvE x) (hn : ns + q.length + wtE x ≤ 100000) (a1 : Option Addr) (c1 : Nat) (k : Int) (nm : Nm) (f : Bool) (u : Int) (ap : Option Addr) (np cp : Nat) (ak : Option Addr) (nk ck : Nat) (ab : Option Addr) (nb cb : Nat) (aa : Option Addr) (na ca : Nat) (r : Option Nat) (pre : List Nm) (V : World) (B : Nat) (hB : V.heap.size = B) (hp : pre.length + wtE x ≤ 100000) (hA : At z J b ns dom r pre V) (hr : RowAt V (Mine M z (some b) r) 9 1 (.slice a1 q.length c1) q.length (namesV q)) (ht : ExAt V M x [.int .i64 k, .string (tx nm), .bool f, .int .u64 u, .slice ap np cp, .slice ak nk ck, .slice ab nb cb, .slice aa na ca]) :
    Calls Try.prog 30 #[.agg #[.map (some b), .func (.yield l) #[] #[]], .slice a1 q.length c1, .slice (some ⟨B, 0, none⟩) 1 1] (V.alloc (.cells #[.int .i64 k, .string (tx nm), .bool f, .int .u64 u, .slice ap np cp, .slice ak nk ck, .slice ab nb cb, .slice aa na ca] 34)) (VarSaid M z J b (ns + q.length + wtE x) dom r (pre ++ outE (dom ++ q) x) V) := by
  subst hB
  have hb := (Below.refl V.heap.size V).alloc Nr (.cells #[.int .i64 k, .string (tx nm), .bool f, .int .u64 u, .slice ap np cp, .slice ak nk ck, .slice ab nb cb, .slice aa na ca] 34)
  have h := vunder_any T n hP b ns dom q [x] hq (fun y hy => by rw [List.mem_singleton.1 hy]; exact hx) (by simp only [sumN]; omega) a1 c1 (some ⟨V.heap.size, 0, none⟩) 1 [.int .i64 k, .string (tx nm), .bool f, .int .u64 u, .slice ap np cp, .slice ak nk ck, .slice ab nb cb, .slice aa na ca] r pre (V.alloc (.cells #[.int .i64 k, .string (tx nm), .bool f, .int .u64 u, .slice ap np cp, .slice ak nk ck, .slice ab nb cb, .slice aa na ca] 34)) (by simp only [sumN]; omega) (hA.below T hb) (hr.step (Step.below hb)) ((one_row (heap_alloc_new _ _)).only (mine_new T hA Nr)) (by
    have h := ExsAt.cons x [] _ [] (T.ex hA.j hA.zb (Step.below hb) ht) .nil
    rwa [List.append_nil] at h)
  refine h.mono fun e w' hh => ?_
  obtain ⟨rfl, r', j', s', n'⟩ := hh
  rw [outEs_one] at j'
  exact ⟨rfl, r', j', (Step.below hb).trans s', n'⟩
theorem VarSaid.from {M : Nat → Prop} {z : Nat} {J : Option Nat → List Nm → World → Prop} {b ns : Nat} {dom : List Nm} {r : Option Nat} {pre : List Nm} {w W : World} {e : Ending} {w' : World} (h : VarSaid M z J b ns dom r pre W e w') (hb : Below w.heap.size w W) : VarSaid M z J b ns dom r pre w e w' := by
  obtain ⟨h1, r', j', s', n'⟩ := h
  exact ⟨h1, r', j', (Step.below hb).trans s', n'⟩
theorem varSaid_more {M : Nat → Prop} {z : Nat} {J : Option Nat → List Nm → World → Prop} {b ns ns' : Nat} {dom : List Nm} {r : Option Nat} {pre : List Nm} {w : World} {e : Ending} {w' : World} (h : VarSaid M z J b ns dom r pre w e w') (hn : ns ≤ ns') : VarSaid M z J b ns' dom r pre w e w' := by
  obtain ⟨h1, r', j', s', D, n1, n2⟩ := h
  exact ⟨h1, r', j', s', D, n1.mono hn, n2⟩
theorem vbody_any {M : Nat → Prop} {z l : Nat} {J : Option Nat → List Nm → World → Prop} (T : Teller M z l J) (n : Nat) (hP : VarC M z l J n) (b ns : Nat) (dom : List Nm) (bd : Bnd) (hz : SizeOf.sizeOf bd.2.2 ≤ n) (hw : Nmv bd.2.1 ∧ wvE bd.2.2) (hn : ns + nB bd ≤ 100000) (aq : Option Addr) (cq : Nat) (k : Int) (nm : Nm) (f : Bool) (u : Int) (ap : Option Addr) (np cp : Nat) (ak : Option Addr) (nk ck : Nat) (ab : Option Addr) (nb cb : Nat) (aa : Option Addr) (na ca : Nat) (r : Option Nat) (pre : List Nm) (w : World) (hp : pre.length + nB bd ≤ 100000) (hA : At z J b ns dom r pre w) (hr : RowAt w M 9 1 (.slice aq bd.2.1.length cq) bd.2.1.length (namesV bd.2.1)) (ht : ExAt w M bd.2.2 [.int .i64 k, .string (tx nm), .bool f, .int .u64 u, .slice ap np cp, .slice ak nk ck, .slice ab nb cb, .slice aa na ca]) :
    Calls Try.prog 68 #[.agg #[.map (some b), .func (.yield l) #[] #[]], .agg #[.string (tx bd.1), .slice aq bd.2.1.length cq, .int .i64 k, .string (tx nm), .bool f, .int .u64 u, .slice ap np cp, .slice ak nk ck, .slice ab nb cb, .slice aa na ca]] w (VarSaid M z J b (ns + nB bd) dom r (pre ++ outE (dom ++ bd.2.1) bd.2.2) w) := by
  have hx1 := (Below.refl w.heap.size w).alloc Nr (.cells #[.map (some b), .func (.yield l) #[] #[]] 72)
  have hx := hx1.alloc hx1.size (.cells #[.string (tx bd.1), .slice aq bd.2.1.length cq, .int .i64 k, .string (tx nm), .bool f, .int .u64 u, .slice ap np cp, .slice ak nk ck, .slice ab nb cb, .slice aa na ca] 36)
  have hn1 : ns + bd.2.1.length + wtE bd.2.2 ≤ 100000 := by unfold nB at hn; omega
  have hn2 : pre.length + wtE bd.2.2 ≤ 100000 := by unfold nB at hp; omega
  have HO := Hd (vunder_one T n hP b ns dom bd.2.1 bd.2.2 (nmv_len hw.1) ⟨hz, hw.2⟩ hn1 aq cq k nm f u ap np cp ak nk ck ab nb cb aa na ca r pre ((w.alloc (.cells #[.map (some b), .func (.yield l) #[] #[]] 72)).alloc (.cells #[.string (tx bd.1), .slice aq bd.2.1.length cq, .int .i64 k, .string (tx nm), .bool f, .int .u64 u, .slice ap np cp, .slice ak nk ck, .slice ab nb cb, .slice aa na ca] 36)) (w.heap.size + 1 + 1) (by simp) hn2 (hA.below T hx) ((T.row hA.j hA.zb hr).step (Step.below hx)) (T.ex hA.j hA.zb (Step.below hx) ht))
  have HX := Hd hx
  have HN := Hd (show ns + bd.2.1.length + wtE bd.2.2 ≤ ns + nB bd by unfold nB; omega)
  clear hA hr ht hx hx1
  go_enter Try.func68, Try.ntmps68
  go_wp2_with fail
  refine HO.out.mono ?_
  rintro e w2 hh
  have H := Hd (varSaid_more (hh.from HX.out) HN.out)
  obtain ⟨rfl, -⟩ := hh
  clear HO
  go_wp2_with fail
  go_ret
  exact H.out
theorem valt_any {M : Nat → Prop} {z l : Nat} {J : Option Nat → List Nm → World → Prop} (T : Teller M z l J) (n : Nat) (hP : VarC M z l J n) (b ns : Nat) (dom : List Nm) (al : Alt) (hz : SizeOf.sizeOf al.2.2.2.2.2 ≤ n) (hw : wvA al) (hn : ns + nA al ≤ 100000) (aq : Option Addr) (cq : Nat) (k : Int) (nm : Nm) (f : Bool) (u : Int) (ap : Option Addr) (np cp : Nat) (ak : Option Addr) (nk ck : Nat) (ab : Option Addr) (nb cb : Nat) (aa : Option Addr) (na ca : Nat) (r : Option Nat) (pre : List Nm) (w : World) (hp : pre.length + nA al ≤ 100000) (hA : At z J b ns dom r pre w) (hr : RowAt w M 9 1 (.slice aq al.2.2.2.2.1.length cq) al.2.2.2.2.1.length (namesV al.2.2.2.2.1)) (ht : ExAt w M al.2.2.2.2.2 [.int .i64 k, .string (tx nm), .bool f, .int .u64 u, .slice ap np cp, .slice ak nk ck, .slice ab nb cb, .slice aa na ca]) :
    Calls Try.prog 62 #[.agg #[.map (some b), .func (.yield l) #[] #[]], .agg #[.int .i64 al.1, .string (tx al.2.1), .bool al.2.2.1, .int .u64 al.2.2.2.1, .slice aq al.2.2.2.2.1.length cq, .int .i64 k, .string (tx nm), .bool f, .int .u64 u, .slice ap np cp, .slice ak nk ck, .slice ab nb cb, .slice aa na ca]] w (VarSaid M z J b (ns + nA al) dom r (pre ++ outA dom al) w) := by
  have hx1 := (Below.refl w.heap.size w).alloc Nr (.cells #[.map (some b), .func (.yield l) #[] #[]] 72)
  have hx := hx1.alloc hx1.size (.cells #[.int .i64 al.1, .string (tx al.2.1), .bool al.2.2.1, .int .u64 al.2.2.2.1, .slice aq al.2.2.2.2.1.length cq, .int .i64 k, .string (tx nm), .bool f, .int .u64 u, .slice ap np cp, .slice ak nk ck, .slice ab nb cb, .slice aa na ca] 51)
  have hz2 : ((w.alloc (.cells #[.map (some b), .func (.yield l) #[] #[]] 72)).alloc (.cells #[.int .i64 al.1, .string (tx al.2.1), .bool al.2.2.1, .int .u64 al.2.2.2.1, .slice aq al.2.2.2.2.1.length cq, .int .i64 k, .string (tx nm), .bool f, .int .u64 u, .slice ap np cp, .slice ak nk ck, .slice ab nb cb, .slice aa na ca] 51)).heap.size = w.heap.size + 1 + 1 := by simp
  obtain ⟨hw1, ⟨hw2, -⟩, hw3⟩ := hw
  have hn1 : ns + (1 + al.2.2.2.2.1.length + wtE al.2.2.2.2.2) ≤ 100000 := hn
  have hn2 : pre.length + (1 + al.2.2.2.2.1.length + wtE al.2.2.2.2.2) ≤ 100000 := hp
  have hnA : nA al = 1 + al.2.2.2.2.1.length + wtE al.2.2.2.2.2 := rfl
  by_cases g0 : al.1 = 0
  · have hsa : outA dom al = outE (dom ++ al.2.2.2.2.1) al.2.2.2.2.2 := if_pos g0
    rw [hsa, g0]
    rw [g0] at hx hz2
    have HO := Hd (vunder_one T n hP b ns dom al.2.2.2.2.1 al.2.2.2.2.2 (nmv_len hw2) ⟨hz, hw3⟩ (by omega) aq cq k nm f u ap np cp ak nk ck ab nb cb aa na ca r pre ((w.alloc (.cells #[.map (some b), .func (.yield l) #[] #[]] 72)).alloc (.cells #[.int .i64 0, .string (tx al.2.1), .bool al.2.2.1, .int .u64 al.2.2.2.1, .slice aq al.2.2.2.2.1.length cq, .int .i64 k, .string (tx nm), .bool f, .int .u64 u, .slice ap np cp, .slice ak nk ck, .slice ab nb cb, .slice aa na ca] 51)) (w.heap.size + 1 + 1) hz2 (by omega) (hA.below T hx) ((T.row hA.j hA.zb hr).step (Step.below hx)) (T.ex hA.j hA.zb (Step.below hx) ht))
    have HX := Hd hx
    have HN := Hd (show ns + al.2.2.2.2.1.length + wtE al.2.2.2.2.2 ≤ ns + nA al by omega)
    clear hA hr ht hx hx1 hz2 hsa
    go_enter Try.func62, Try.ntmps62
    go_wp2_with fail
    refine HO.out.mono ?_
    rintro e w2 hh
    have H := Hd (varSaid_more (hh.from HX.out) HN.out)
    obtain ⟨rfl, -⟩ := hh
    clear HO
    go_wp2_with fail
    go_ret
    exact H.out
  · by_cases g2 : al.1 = 2
    · have hsa : outA dom al = outE (dom ++ [al.2.1]) al.2.2.2.2.2 := (if_neg g0).trans (if_pos g2)
      rw [hsa, g2]
      rw [g2] at hx hz2
      have hy := hx.alloc hx.size (.cells #[.string (tx al.2.1)] 9)
      have hrow : RowAt (((w.alloc (.cells #[.map (some b), .func (.yield l) #[] #[]] 72)).alloc (.cells #[.int .i64 2, .string (tx al.2.1), .bool al.2.2.1, .int .u64 al.2.2.2.1, .slice aq al.2.2.2.2.1.length cq, .int .i64 k, .string (tx nm), .bool f, .int .u64 u, .slice ap np cp, .slice ak nk ck, .slice ab nb cb, .slice aa na ca] 51)).alloc (.cells #[.string (tx al.2.1)] 9)) (Mine M z (some b) r) 9 1 (.slice (some ⟨w.heap.size + 1 + 1, 0, none⟩) 1 1) 1 (namesV [al.2.1]) := by
        have h := heap_alloc_new ((w.alloc (.cells #[.map (some b), .func (.yield l) #[] #[]] 72)).alloc (.cells #[.int .i64 2, .string (tx al.2.1), .bool al.2.2.1, .int .u64 al.2.2.2.1, .slice aq al.2.2.2.2.1.length cq, .int .i64 k, .string (tx nm), .bool f, .int .u64 u, .slice ap np cp, .slice ak nk ck, .slice ab nb cb, .slice aa na ca] 51)) (.cells #[.string (tx al.2.1)] 9)
        rw [hz2] at h
        exact (name_row h).only (mine_new T hA (by omega))
      have HO := Hd (vunder_one T n hP b ns dom [al.2.1] al.2.2.2.2.2 (fun y hy => by rw [List.mem_singleton.1 hy]; exact (hw1 (Or.inr g2)).2) ⟨hz, hw3⟩ (by simp only [List.length_cons, List.length_nil]; omega) (some ⟨w.heap.size + 1 + 1, 0, none⟩) 1 k nm f u ap np cp ak nk ck ab nb cb aa na ca r pre (((w.alloc (.cells #[.map (some b), .func (.yield l) #[] #[]] 72)).alloc (.cells #[.int .i64 2, .string (tx al.2.1), .bool al.2.2.1, .int .u64 al.2.2.2.1, .slice aq al.2.2.2.2.1.length cq, .int .i64 k, .string (tx nm), .bool f, .int .u64 u, .slice ap np cp, .slice ak nk ck, .slice ab nb cb, .slice aa na ca] 51)).alloc (.cells #[.string (tx al.2.1)] 9)) (w.heap.size + 1 + 1 + 1) (by simp) (by omega) (hA.below T hy) hrow (T.ex hA.j hA.zb (Step.below hy) ht))
      have HX := Hd hy
      have HN := Hd (show ns + [al.2.1].length + wtE al.2.2.2.2.2 ≤ ns + nA al by simp only [List.length_cons, List.length_nil]; omega)
      clear hA hr ht hx hx1 hz2 hsa hrow hy
      go_enter Try.func62, Try.ntmps62
      go_wp2_with fail
      refine HO.out.mono ?_
      rintro e w2 hh
      have H := Hd (varSaid_more (hh.from HX.out) HN.out)
      obtain ⟨rfl, -⟩ := hh
      clear HO
      go_wp2_with fail
      go_ret
      exact H.out
    · have hsa : outA dom al = outE dom al.2.2.2.2.2 := (if_neg g0).trans (if_neg g2)
      rw [hsa]
      have HO := Hd (hP al.2.2.2.2.2 r pre ((w.alloc (.cells #[.map (some b), .func (.yield l) #[] #[]] 72)).alloc (.cells #[.int .i64 al.1, .string (tx al.2.1), .bool al.2.2.1, .int .u64 al.2.2.2.1, .slice aq al.2.2.2.2.1.length cq, .int .i64 k, .string (tx nm), .bool f, .int .u64 u, .slice ap np cp, .slice ak nk ck, .slice ab nb cb, .slice aa na ca] 51)) b ns dom k nm f u ap np cp ak nk ck ab nb cb aa na ca hz hw3 (by omega) (by omega) (hA.below T hx) (T.ex hA.j hA.zb (Step.below hx) ht))
      have HX := Hd hx
      have HN := Hd (show ns + wtE al.2.2.2.2.2 ≤ ns + nA al by omega)
      clear hA hr ht hx hx1 hz2 hsa hnA
      go_enter Try.func62, Try.ntmps62
      generalize al.1 = kk at *
      go_wp2_with fail
      refine HO.out.mono ?_
      rintro e w2 hh
      have H := Hd (varSaid_more (hh.from HX.out) HN.out)
      obtain ⟨rfl, -⟩ := hh
      clear HO
      go_wp2_with fail
      go_ret
      exact H.out
theorem bNames_len (bl : List Bnd) : (bNames bl).length = bl.length := by simp [bNames]
end Go.Proofs.Ytdjcdecbmeickaa
