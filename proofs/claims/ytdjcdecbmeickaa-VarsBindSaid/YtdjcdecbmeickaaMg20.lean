import Derived.Deep.RegionHeld3
import Derived.Deep.QuietTactic
import Derived.Deep.DeepCutAuto
import Derived.Test.YtdjcdecbmeickaaMg12
import Derived.Test.YtdjcdecbmeickaaMg19
namespace Go.Proofs.Ytdjcdecbmeickaa
set_option maxHeartbeats 64000000
set_option maxRecDepth 100000
open Go.RowKit Go.Lib
theorem two_boxesV (wr : World) (A B : Array Value) (T : TypeId) : Below wr.heap.size wr ((wr.alloc (.cells A T)).alloc (.cells B T)).drew ∧ BoxW ((wr.alloc (.cells A T)).alloc (.cells B T)).drew wr.heap.size A.toList ∧ BoxW ((wr.alloc (.cells A T)).alloc (.cells B T)).drew (wr.heap.size + 1) B.toList := by
  have h1 : Below wr.heap.size wr (wr.alloc (.cells A T)) := (Below.refl _ wr).alloc Nr _
  have h2 : Below (wr.alloc (.cells A T)).heap.size (wr.alloc (.cells A T)) ((wr.alloc (.cells A T)).alloc (.cells B T)) := Br.alloc Nr _
  have b1 := BoxW.alloc wr A T
  have b2 := BoxW.alloc (wr.alloc (.cells A T)) B T
  have hs : (wr.alloc (.cells A T)).heap.size = wr.heap.size + 1 := by simp
  rw [hs] at b2
  refine ⟨(onB' h1 h2).drew, ⟨fun j v hv => later' (h2.drew) (b1.1 j v hv), fun j => ?_⟩, ⟨b2.1, b2.2⟩⟩
  exact (World.frozen?_of_block (h2.drew.block _ (by simp))).trans (b1.2 j)
theorem appX_at {W : World} {K1 K2 : Nat → Prop} {x y : Ex} {a2 : Option Addr} {c2 : Nat} {xs ys : List Value} (h2 : RowAt W (fun _ => True) 34 8 (.slice a2 2 c2) 2 (xs ++ ys)) (h3 : ExAt W K1 x xs) (h4 : ExAt W K2 y ys) :
    ExAt W (fun g => g < W.heap.size) (.mk 4 [] false 0 [] [x, y] [] []) [.int .i64 4, .string (tx []), .bool false, .int .u64 0, .slice none 0 0, .slice a2 2 c2, .slice none 0 0, .slice none 0 0] := by
  have hy := ExsAt.cons y [] ys [] (h4.move (K' := fun g => g < W.heap.size) fun g _ lt => ⟨lt, rfl⟩) .nil
  rw [List.append_nil] at hy
  have hk := ExsAt.cons x [y] xs ys (h3.move (K' := fun g => g < W.heap.size) fun g _ lt => ⟨lt, rfl⟩) hy
  exact .mk 4 [] false 0 [] [x, y] [] [] (.slice none 0 0) (.slice a2 2 c2) (.slice none 0 0) (.slice none 0 0) (xs ++ ys) [] [] (row_none _ _ _ _) (h2.move fun g _ lt => ⟨lt, rfl⟩) (row_none _ _ _ _) (row_none _ _ _ _) hk .nil .nil
theorem appX_wv {x y : Ex} (hx : wvE x) (hy : wvE y) : wvE (.mk 4 [] false 0 [] [x, y] [] []) := by
  unfold wvE
  refine ⟨(fun g => by omega), (fun z hz => by cases hz), ?_, ?_, ?_⟩
  · unfold wvEs wvEs wvEs; exact ⟨hx, hy, trivial⟩
  · unfold wvBs; trivial
  · unfold wvAs; trivial
theorem onto_belowV {wc w5 w6 : World} {e : TypeId} {size n c : Nat} {xs : List Value} {ao : Option Addr} {cap : Nat} (hb : Below wc.heap.size wc w5) (h : Onto w5 wc.heap.size e size (.slice (some ⟨wc.heap.size, 0, none⟩) 0 c) n xs ao cap w6) : Below wc.heap.size wc w6 :=
  ⟨h.2.1.os.trans hb.os, h.2.1.tape.trans hb.tape, h.2.1.output.trans hb.output, Nt hb.size h.2.1.size, fun k hk => (h.2.1.block k (by have := hb.size; omega) (fun e => by have e' : k = wc.heap.size := Oi e; omega)).trans (hb.block k hk)⟩
theorem appX_wt (x y : Ex) : wtE (.mk 4 [] false 0 [] [x, y] [] []) = wtE x + wtE y := by
  rw [wtE_mk]
  simp [sumN]
theorem vjoin_walk (s t : ByteArray) (w : World) :
    Calls Try.prog 7 #[.string s, .string t] w fun e w' => e = .returned (.bool true) ∧ Below w.heap.size w w' := by
  go_enter Try.func7, Try.ntmps7
  go_wp2_with fail
  refine (vawake_any w).mono ?_
  rintro e w1 ⟨rfl, hb⟩
  have H1 := Hd hb
  clear hb
  by_cases g3 : 2000 < s.size
  · have f3 : decide ((2000 : Int) < (s.size : Int)) = true := decide_eq_true (by omega)
    go_wp2_with fail
    try go_quiet (fail)
    try go_wp2_with fail
    go_ret
    exact ⟨rfl, by first | exact H1.out | exact below_dN H1.out _⟩
  have f3 : decide ((2000 : Int) < (s.size : Int)) = false := decide_eq_false (by omega)
  by_cases g4 : 2000 < t.size
  · have f4 : decide ((2000 : Int) < (t.size : Int)) = true := decide_eq_true (by omega)
    go_wp2_with fail
    try go_quiet (fail)
    try go_wp2_with fail
    go_ret
    exact ⟨rfl, by first | exact H1.out | exact below_dN H1.out _⟩
  have f4 : decide ((2000 : Int) < (t.size : Int)) = false := decide_eq_false (by omega)
  have HP := Hd (fun V => law_told s (by omega) V)
  have HP2 := Hd (fun V => law_told t (by omega) V)
  have hsl : s.data.toList.length ≤ 100000 := by
    have := size_eq s
    omega
  have htl : t.data.toList.length ≤ 100000 := by
    have := size_eq t
    omega
  go_wp2_with fail
  refine (HP.out _).mono ?_
  rintro e w2 ⟨⟨ab, cb, cs, rfl, hr, hbd⟩, hbl⟩
  have hok := bindsL_ok hsl
  have hle := bindsL_le (l := s.data.toList)
  generalize bindsL s.data.toList = L at *
  have hmx := hr.cap
  unfold maxLen at hmx
  have HV := Hd (Ai hr (Ai hbd (Ai (onB' H1.out hbl) hok.1)))
  clear hr hbd hbl hok HP hsl f3 f4
  go_wp2_with fail
  refine (HP2.out _).mono ?_
  rintro e w3 ⟨⟨ab2, cb2, cs2, rfl, hr, hbd⟩, hbl⟩
  have hok := bindsL_ok htl
  have hle2 := bindsL_le (l := t.data.toList)
  generalize bindsL t.data.toList = M at *
  have hmx2 := hr.cap
  unfold maxLen at hmx2
  have HV2 := Hd (Ai hr (Ai hbd (Ai (onB' HV.out.2.2.1 hbl) hok.1)))
  have HV1 := Hd (Ai (HV.out.1.below hbl) (Ai (HV.out.2.1.move (K' := fun g => g < w3.heap.size) fun g hk lt => ⟨Nat.lt_of_lt_of_le hk hbl.size, hbl.block g lt⟩) HV.out.2.2.2))
  clear hr hbd hbl hok HP2 htl HV
  by_cases gL : L.length = 0
  · have fL : ((L.length : Int) == 0) = true := by simp [gL]
    have HL := Hd gL
    clear gL
    go_wp2_with fail
    try go_quiet (fail)
    try go_wp2_with fail
    go_ret
    exact ⟨rfl, by first | exact HV2.out.2.2.1 | exact below_dN HV2.out.2.2.1 _⟩
  by_cases gM : M.length = 0
  · have fL : ((L.length : Int) == 0) = false := beq_eq_false_iff_ne.2 (by omega)
    have fM : ((M.length : Int) == 0) = true := by simp [gM]
    have HL := Hd gM
    clear gM
    go_wp2_with fail
    try go_quiet (fail)
    try go_wp2_with fail
    go_ret
    exact ⟨rfl, by first | exact HV2.out.2.2.1 | exact below_dN HV2.out.2.2.1 _⟩
  have fL : ((L.length : Int) == 0) = false := beq_eq_false_iff_ne.2 (by omega)
  have fM : ((M.length : Int) == 0) = false := beq_eq_false_iff_ne.2 (by omega)
  have gL' : 0 < L.length := by omega
  have gM' : 0 < M.length := by omega
  obtain ⟨aq1, cq1, k1, nm1, f1, u1, ap1, np1, cp1, ak1, nk1, ck1, ab1x, nb1, cb1x, aa1, na1, ca1, -, hE1, hc1⟩ := HV1.out.2.1.cells 0 gL'
  obtain ⟨aq2, cq2, k2, nm2, f2, u2, ap2, np2, cp2, ak2, nk2, ck2, ab2x, nb2, cb2x, aa2, na2, ca2, -, hE2, hc2⟩ := HV2.out.2.1.cells 0 gM'
  obtain ⟨g1, o1, ea1, kk1, mm1, -, ht1⟩ := HV1.out.1.at gL'
  obtain ⟨g2, o2, ea2, kk2, mm2, -, ht2⟩ := HV2.out.1.at gM'
  subst ea1 ea2
  have HPa := Hd (fun i v h => ht1 _ _ (hc1 i v h))
  have HPb := Hd (fun i v h => ht2 _ _ (hc2 i v h))
  have hw1 := (HV1.out.2.2 L[0] (List.getElem_mem gL')).2.2
  have hw2 := (HV2.out.2.2.2 M[0] (List.getElem_mem gM')).2.2
  have hwt1 : wtE L[0].2.2 ≤ 4096 := by
    have := sumN_mem nB (List.getElem_mem gL')
    unfold nB at this hle
    omega
  have hwt2 : wtE M[0].2.2 ≤ 4096 := by
    have := sumN_mem nB (List.getElem_mem gM')
    unfold nB at this hle2
    omega
  generalize L[0].2.2 = x at *
  generalize M[0].2.2 = y at *
  have HXY := Hd (Ai hw1 (Ai hw2 (Ai hE1 hE2)))
  clear hw1 hw2 hE1 hE2 ht1 ht2 hc1 hc2
  have p2 : w3.cell? ⟨g1, o1 + 2, none⟩ = some (.int .i64 k1) := HPa.out 2 _ rfl
  have p3 : w3.cell? ⟨g1, o1 + 3, none⟩ = some (.string (tx nm1)) := HPa.out 3 _ rfl
  have p4 : w3.cell? ⟨g1, o1 + 4, none⟩ = some (.bool f1) := HPa.out 4 _ rfl
  have p5 : w3.cell? ⟨g1, o1 + 5, none⟩ = some (.int .u64 u1) := HPa.out 5 _ rfl
  have p6 : w3.cell? ⟨g1, o1 + 6, none⟩ = some (.slice ap1 np1 cp1) := HPa.out 6 _ rfl
  have p7 : w3.cell? ⟨g1, o1 + 7, none⟩ = some (.slice ak1 nk1 ck1) := HPa.out 7 _ rfl
  have p8 : w3.cell? ⟨g1, o1 + 8, none⟩ = some (.slice ab1x nb1 cb1x) := HPa.out 8 _ rfl
  have p9 : w3.cell? ⟨g1, o1 + 9, none⟩ = some (.slice aa1 na1 ca1) := HPa.out 9 _ rfl
  have q2 : w3.cell? ⟨g2, o2 + 2, none⟩ = some (.int .i64 k2) := HPb.out 2 _ rfl
  have q3 : w3.cell? ⟨g2, o2 + 3, none⟩ = some (.string (tx nm2)) := HPb.out 3 _ rfl
  have q4 : w3.cell? ⟨g2, o2 + 4, none⟩ = some (.bool f2) := HPb.out 4 _ rfl
  have q5 : w3.cell? ⟨g2, o2 + 5, none⟩ = some (.int .u64 u2) := HPb.out 5 _ rfl
  have q6 : w3.cell? ⟨g2, o2 + 6, none⟩ = some (.slice ap2 np2 cp2) := HPb.out 6 _ rfl
  have q7 : w3.cell? ⟨g2, o2 + 7, none⟩ = some (.slice ak2 nk2 ck2) := HPb.out 7 _ rfl
  have q8 : w3.cell? ⟨g2, o2 + 8, none⟩ = some (.slice ab2x nb2 cb2x) := HPb.out 8 _ rfl
  have q9 : w3.cell? ⟨g2, o2 + 9, none⟩ = some (.slice aa2 na2 ca2) := HPb.out 9 _ rfl
  go_wp2_with fail
  go_cut [7, 8] (fun va vb wx => ∃ ba bb, va = .pointer (some ⟨ba, 0, none⟩) ∧ vb = .pointer (some ⟨bb, 0, none⟩) ∧ Below w3.heap.size w3 wx ∧ BoxW wx ba [.int .i64 k1, .string (tx nm1), .bool f1, .int .u64 u1, .slice ap1 np1 cp1, .slice ak1 nk1 ck1, .slice ab1x nb1 cb1x, .slice aa1 na1 ca1] ∧ BoxW wx bb [.int .i64 k2, .string (tx nm2), .bool f2, .int .u64 u2, .slice ap2 np2 cp2, .slice ak2 nk2 ck2, .slice ab2x nb2 cb2x, .slice aa2 na2 ca2])
  case first =>
    go_region_held3 (fun W' => W'.cell? ⟨g1, o1 + 2, none⟩ = some (.int .i64 k1) ∧ W'.cell? ⟨g1, o1 + 3, none⟩ = some (.string (tx nm1)) ∧ W'.cell? ⟨g1, o1 + 4, none⟩ = some (.bool f1) ∧ W'.cell? ⟨g1, o1 + 5, none⟩ = some (.int .u64 u1) ∧ W'.cell? ⟨g1, o1 + 6, none⟩ = some (.slice ap1 np1 cp1) ∧ W'.cell? ⟨g1, o1 + 7, none⟩ = some (.slice ak1 nk1 ck1) ∧ W'.cell? ⟨g1, o1 + 8, none⟩ = some (.slice ab1x nb1 cb1x) ∧ W'.cell? ⟨g1, o1 + 9, none⟩ = some (.slice aa1 na1 ca1) ∧ W'.cell? ⟨g2, o2 + 2, none⟩ = some (.int .i64 k2) ∧ W'.cell? ⟨g2, o2 + 3, none⟩ = some (.string (tx nm2)) ∧ W'.cell? ⟨g2, o2 + 4, none⟩ = some (.bool f2) ∧ W'.cell? ⟨g2, o2 + 5, none⟩ = some (.int .u64 u2) ∧ W'.cell? ⟨g2, o2 + 6, none⟩ = some (.slice ap2 np2 cp2) ∧ W'.cell? ⟨g2, o2 + 7, none⟩ = some (.slice ak2 nk2 ck2) ∧ W'.cell? ⟨g2, o2 + 8, none⟩ = some (.slice ab2x nb2 cb2x) ∧ W'.cell? ⟨g2, o2 + 9, none⟩ = some (.slice aa2 na2 ca2)) (first | exact ⟨p2, p3, p4, p5, p6, p7, p8, p9, q2, q3, q4, q5, q6, q7, q8, q9⟩ | go_keep) (fail)
    · rename_i hHeld
      clear hHeld
      have HD := Hd (two_boxesV w3 #[.int .i64 k1, .string (tx nm1), .bool f1, .int .u64 u1, .slice ap1 np1 cp1, .slice ak1 nk1 ck1, .slice ab1x nb1 cb1x, .slice aa1 na1 ca1] #[.int .i64 k2, .string (tx nm2), .bool f2, .int .u64 u2, .slice ap2 np2 cp2, .slice ak2 nk2 ck2, .slice ab2x nb2 cb2x, .slice aa2 na2 ca2] 34)
      go_wp2_with fail
      go_meet
      exact ⟨_, _, rfl, rfl, HD.out.1, HD.out.2.1, HD.out.2.2⟩
    · rename_i hHeld
      clear hHeld
      have HD := Hd (two_boxesV w3 #[.int .i64 k2, .string (tx nm2), .bool f2, .int .u64 u2, .slice ap2 np2 cp2, .slice ak2 nk2 ck2, .slice ab2x nb2 cb2x, .slice aa2 na2 ca2] #[.int .i64 k1, .string (tx nm1), .bool f1, .int .u64 u1, .slice ap1 np1 cp1, .slice ak1 nk1 ck1, .slice ab1x nb1 cb1x, .slice aa1 na1 ca1] 34)
      go_wp2_with fail
      go_meet
      exact ⟨_, _, rfl, rfl, HD.out.1, HD.out.2.2, HD.out.2.1⟩
  case rest =>
  obtain ⟨ba, bb, rfl, rfl, hB, hX1, hX2⟩ := hcut
  have HB := Hd (Ai hB (Ai hX1 hX2))
  have HX := Hd (Ai (wvE_of x HXY.out.1) (Ai (wvE_of y HXY.out.2.1) (Ai (HXY.out.2.2.1.move (K' := fun _ => True) fun g hk lt => ⟨trivial, hB.block g lt⟩) (HXY.out.2.2.2.move (K' := fun _ => True) fun g hk lt => ⟨trivial, hB.block g lt⟩))))
  have HBw := Hd (onB' HV2.out.2.2.1 hB)
  clear hB hX1 hX2 p2 p3 p4 p5 p6 p7 p8 p9 q2 q3 q4 q5 q6 q7 q8 q9 HPa HPb HV1 HV2 HXY fL fM gL gM gL' gM' hmx hmx2 hle hle2 kk1 kk2 mm1 mm2
  have HF1 := Hd (fun (V : World) (hb : Below wc.heap.size wc V) => vfree_said x HX.out.1 (by omega) k1 nm1 f1 u1 ap1 np1 cp1 ak1 nk1 ck1 ab1x nb1 cb1x aa1 na1 ca1 (fun _ => True) V (HX.out.2.2.1.move fun g hk lt => ⟨hk, hb.block g lt⟩))
  have HF2 := Hd (fun (V : World) (hb : Below wc.heap.size wc V) => vfree_said y HX.out.2.1 (by omega) k2 nm2 f2 u2 ap2 np2 cp2 ak2 nk2 ck2 ab2x nb2 cb2x aa2 na2 ca2 (fun _ => True) V (HX.out.2.2.2.move fun g hk lt => ⟨hk, hb.block g lt⟩))
  have HF3 := Hd (fun (V : World) (hb : Below wc.heap.size wc V) (a2 : Option Addr) (c2 : Nat) (h2 : RowAt V (fun _ => True) 34 8 (.slice a2 2 c2) 2 ([.int .i64 k1, .string (tx nm1), .bool f1, .int .u64 u1, .slice ap1 np1 cp1, .slice ak1 nk1 ck1, .slice ab1x nb1 cb1x, .slice aa1 na1 ca1] ++ [.int .i64 k2, .string (tx nm2), .bool f2, .int .u64 u2, .slice ap2 np2 cp2, .slice ak2 nk2 ck2, .slice ab2x nb2 cb2x, .slice aa2 na2 ca2])) => vfree_said (.mk 4 [] false 0 [] [x, y] [] []) (appX_wv HX.out.1 HX.out.2.1) (by rw [appX_wt]; omega) 4 [] false 0 none 0 0 a2 2 c2 none 0 0 none 0 0 _ V (appX_at h2 (HX.out.2.2.1.move fun g hk lt => ⟨hk, hb.block g lt⟩) (HX.out.2.2.2.move fun g hk lt => ⟨hk, hb.block g lt⟩)))
  have htn : tx [] = ⟨#[]⟩ := rfl
  rw [htn] at HF3
  have hle1 := bodyL_len x []
  have hle2 := bodyL_len y []
  have HAF := Hd (app_free x y)
  have ba1 := (Below.refl wc.heap.size wc).alloc Nr (.cells #[] 9)
  have HA0 := Hd (show (wc.alloc (.cells #[] 9)).ownsRow wc.heap.size 9 1 (.slice (some ⟨wc.heap.size, 0, none⟩) 0 0) 0 [] from ⟨by simp, Or.inr ⟨wc.heap.size, 0, #[], rfl, Nat.le_refl _, heap_alloc_new _ _, Nat.le_refl _, Nat.zero_le _, rfl, rfl⟩⟩)
  have HBa := Hd ba1
  have b0 : wc.cell? ⟨ba, 0, none⟩ = some (.int .i64 k1) := HB.out.2.1.1 0 _ rfl
  have b1 : wc.cell? ⟨ba, 1, none⟩ = some (.string (tx nm1)) := HB.out.2.1.1 1 _ rfl
  have b2 : wc.cell? ⟨ba, 2, none⟩ = some (.bool f1) := HB.out.2.1.1 2 _ rfl
  have b3 : wc.cell? ⟨ba, 3, none⟩ = some (.int .u64 u1) := HB.out.2.1.1 3 _ rfl
  have b4 : wc.cell? ⟨ba, 4, none⟩ = some (.slice ap1 np1 cp1) := HB.out.2.1.1 4 _ rfl
  have b5 : wc.cell? ⟨ba, 5, none⟩ = some (.slice ak1 nk1 ck1) := HB.out.2.1.1 5 _ rfl
  have b6 : wc.cell? ⟨ba, 6, none⟩ = some (.slice ab1x nb1 cb1x) := HB.out.2.1.1 6 _ rfl
  have b7 : wc.cell? ⟨ba, 7, none⟩ = some (.slice aa1 na1 ca1) := HB.out.2.1.1 7 _ rfl
  have d0 : wc.cell? ⟨bb, 0, none⟩ = some (.int .i64 k2) := HB.out.2.2.1 0 _ rfl
  have d1 : wc.cell? ⟨bb, 1, none⟩ = some (.string (tx nm2)) := HB.out.2.2.1 1 _ rfl
  have d2 : wc.cell? ⟨bb, 2, none⟩ = some (.bool f2) := HB.out.2.2.1 2 _ rfl
  have d3 : wc.cell? ⟨bb, 3, none⟩ = some (.int .u64 u2) := HB.out.2.2.1 3 _ rfl
  have d4 : wc.cell? ⟨bb, 4, none⟩ = some (.slice ap2 np2 cp2) := HB.out.2.2.1 4 _ rfl
  have d5 : wc.cell? ⟨bb, 5, none⟩ = some (.slice ak2 nk2 ck2) := HB.out.2.2.1 5 _ rfl
  have d6 : wc.cell? ⟨bb, 6, none⟩ = some (.slice ab2x nb2 cb2x) := HB.out.2.2.1 6 _ rfl
  have d7 : wc.cell? ⟨bb, 7, none⟩ = some (.slice aa2 na2 ca2) := HB.out.2.2.1 7 _ rfl
  generalize bodyL [] (.mk 4 [] false 0 [] [x, y] [] []) = FA at *
  generalize bodyL [] x = F at *
  generalize bodyL [] y = G at *
  have z0 := later' HBa.out b0
  have z1 := later' HBa.out b1
  have z2 := later' HBa.out b2
  have z3 := later' HBa.out b3
  have z4 := later' HBa.out b4
  have z5 := later' HBa.out b5
  have z6 := later' HBa.out b6
  have z7 := later' HBa.out b7
  clear ba1
  go_wp2_with fail
  refine (HF1.out _ HBa.out).mono ?_
  rintro e w5 ⟨⟨v5, rfl, ho5⟩, hb5⟩
  obtain ⟨a5, c5, rfl, -⟩ := own_shape ho5
  have HA5 := Hd (Ai (own_below HA0.out hb5) (Ai (own_row ho5 Br) (onB' HBa.out hb5)))
  have hz5 := HA5.out.2.2.size
  clear ho5 hb5 z0 z1 z2 z3 z4 z5 z6 z7
  go_wp2_with (at_builtin; refine list_onto_str rfl _ _ rfl _ wc.heap.size 0 (.slice (some ⟨wc.heap.size, 0, none⟩) 0 0) [] rfl HA5.out.1 (fun _ => True) F.length (namesV F) (.slice a5 F.length c5) rfl HA5.out.2.1 namesV_one (by omega) hz5 ?_; intro ao cap w6 O1; rw [Nat.zero_add, List.nil_append] at O1; have B6 := onto_belowV HA5.out.2.2 O1; have e0 := later' B6 d0; have e1 := later' B6 d1; have e2 := later' B6 d2; have e3 := later' B6 d3; have e4 := later' B6 d4; have e5 := later' B6 d5; have e6 := later' B6 d6; have e7 := later' B6 d7)
  have H6 := Hd (Ai O1.1 B6)
  clear O1 HA5 hz5 HA0
  refine (HF2.out _ B6).mono ?_
  rintro e w7 ⟨⟨v7, rfl, ho7⟩, hb7⟩
  obtain ⟨a7, c7, rfl, -⟩ := own_shape ho7
  have H7 := Hd (Ai (own_below H6.out.1 hb7) (Ai (RowAt.of (K := fun g => w6.heap.size ≤ g) ho7 (fun _ h => h)) (Ai (onB' H6.out.2 hb7) (Ai (own_lt H6.out.1) hb7.size))))
  clear ho7 hb7 B6 e0 e1 e2 e3 e4 e5 e6 e7 H6
  obtain ⟨i0, hi0, hz0, hzs, hzb⟩ := info_parts Try.info_text
  go_wp2_with fail
  go_loopw [9, 11] (fun s9 s11 wr => ∃ (j : Nat) (vv : Value), j ≤ G.length ∧ vv = s9 ∧ s11 = .int .i64 j ∧ wr.ownsRow wc.heap.size 9 1 vv (dedup F (G.take j)).length (namesV (dedup F (G.take j))) ∧ Below wc.heap.size wc wr ∧ w7.heap.size ≤ wr.heap.size ∧ RowAt wr (fun g => w6.heap.size ≤ g ∧ g < w7.heap.size) 9 1 (.slice a7 G.length c7) G.length (namesV G) ∧ (∀ g, vv.ownBlock = some g → g < w6.heap.size ∨ w7.heap.size ≤ g)) (fun _ s11 _ => G.length - (RowKit.intOf s11).toNat)
  case atStart => exact ⟨0, _, Nat.zero_le _, rfl, rfl, by rw [List.take_zero]; exact H7.out.1, H7.out.2.2.1, Nat.le_refl _, H7.out.2.1.move (fun g hk lt => ⟨⟨hk, lt⟩, rfl⟩), fun g hg => Or.inl (H7.out.2.2.2.1 g hg)⟩
  case round =>
    obtain ⟨j, vv, hj, rfl, rfl, hown, hbr, hsz, hG, hpl⟩ := hrel
    obtain ⟨av, cc, rfl, hlow⟩ := own_shape hown
    have hln := dedup_len (G.take j) F
    rw [List.length_take] at hln
    have hzw : wc.heap.size ≤ wr.heap.size := hbr.size
    have HR := Hd (Ai hown (Ai hbr (Ai hlow (Ai hG (Ai hpl hsz)))))
    clear hown hbr hlow hG hpl hsz
    by_cases gj : j < G.length
    · have gj' : (j : Int) < (G.length : Int) := by omega
      obtain ⟨gq, oq, eq1, kq1, mq1, -, ht1⟩ := HR.out.2.2.2.1.at (by omega)
      subst eq1
      have p0 := ht1 j _ (namesV_get gj)
      have HT := Hd (show dedup F (G.take (j + 1)) = if G[j] ∈ dedup F (G.take j) then dedup F (G.take j) else dedup F (G.take j) ++ [G[j]] by rw [← dedup_snoc, List.take_succ_eq_append_getElem gj])
      clear ht1
      generalize G[j] = tk at *
      have ej : IntKind.i64.wrap ((j : Int) + 1) = (j : Int) + 1 := by rw [IntKind.wrap_i64]; omega
      have bj : (0 : Int) ≤ (j : Int) := by omega
      have HI := Hd (in_any (dedup F (G.take j)) tk av cc (fun _ => True) wr (RowAt.of HR.out.1 (fun _ _ => trivial)))
      clear b0 b1 b2 b3 b4 b5 b6 b7 d0 d1 d2 d3 d4 d5 d6 d7
      go_wp2_with fail
      refine HI.out.mono ?_
      rintro e w8 ⟨rfl, hb2⟩
      have HB8 := Hd (Ai (onB' HR.out.2.1 hb2) (Ai (own_below HR.out.1 hb2) (Ai (HR.out.2.2.2.1.below hb2) (Nt HR.out.2.2.2.2.2 hb2.size))))
      have p1 := later' hb2 p0
      have hz8 := Nt hzw hb2.size
      clear hb2 HI p0
      by_cases g : tk ∈ dedup F (G.take j)
      · rw [decide_eq_true g]
        have HG := Hd g
        clear g
        go_wp2_with fail
        refine ⟨⟨j + 1, _, by omega, rfl, by go_num, ?_, HB8.out.1, HB8.out.2.2.2, HB8.out.2.2.1, ?_⟩, by simp [RowKit.intOf]; omega⟩
        · rw [HT.out, if_pos HG.out]
          exact HB8.out.2.1
        · exact HR.out.2.2.2.2.1
      · rw [decide_eq_false g]
        have HG := Hd g
        clear g
        have one1 : ∀ u ∈ [Value.string (tx tk)], u.oneCell' = true := by intro u hu; simp at hu; rw [hu]; rfl
        have m9 : (dedup F (G.take j)).length + 1 ≤ maxLen := by unfold maxLen; omega
        have m8 : ((dedup F (G.take j)).length + 1) * 16 ≤ 140737488355328 := by omega
        have H5 := Hd ((Below.refl w8.heap.size w8).alloc Nr (.cells #[.string (tx tk)] 9))
        have hz9 : wc.heap.size ≤ (w8.alloc (.cells #[.string (tx tk)] 9)).heap.size := Nt hz8 H5.out.size
        have HO5 := Hd (own_below HB8.out.2.1 H5.out)
        generalize hdd : (dedup F (G.take j)).length = N at *
        have HN := Hd hdd
        clear hdd
        go_wp2_with (at_builtin; refine wpList_append_lies _ rfl _ _ 22 rfl wc.heap.size 9 i0 (.string ⟨#[]⟩) 1 16 Try.underlying22 hi0 hz0 hzs hzb rfl (by decide) (.slice av N cc) N (namesV (dedup F (G.take j))) rfl HO5.out ⟨w8.heap.size, 0, none⟩ 1 1 [.string (tx tk)] rfl rfl (World.news_of_block (heap_alloc_new _ _)) one1 (by decide) m9 m8 hz9 _ rfl ?_; intro g9 cap9 w9 y1 y2 y3 y4)
        refine ⟨⟨j + 1, _, by omega, rfl, by go_num, ?_, ?_, ?_, ?_, ?_⟩, by simp [RowKit.intOf]; omega⟩
        · rw [HT.out, if_neg HG.out, List.length_append, HN.out]
          simpa [namesV] using y1
        · have hx := onB' HB8.out.1 H5.out
          exact ⟨y2.os.trans hx.os, y2.tape.trans hx.tape, y2.output.trans hx.output, Nt hx.size y2.size, fun k hk => (y2.block k (by have := hx.size; omega) (fun e => by have := HR.out.2.2.1 k e.symm; omega)).trans (hx.block k hk)⟩
        · exact Nt HB8.out.2.2.2 (Nt H5.out.size y2.size)
        · exact HB8.out.2.2.1.move fun g hk lt => ⟨hk, (y2.block g (Nat.lt_of_lt_of_le lt H5.out.size) (fun e => by have := HR.out.2.2.2.2.1 g e.symm; omega)).trans (H5.out.block g lt)⟩
        · intro g e
          have e2 : g9 = g := Oi e
          rcases y3 with h | h
          · exact HR.out.2.2.2.2.1 g (by rw [← e2]; exact h)
          · have h1 := H5.out.size
            have h2 := HB8.out.2.2.2
            right
            omega
    · obtain rfl : j = G.length := by omega
      rw [List.take_length] at HR hln ⊢
      have e0 := later' HR.out.2.1 b0
      have e1 := later' HR.out.2.1 b1
      have e2 := later' HR.out.2.1 b2
      have e3 := later' HR.out.2.1 b3
      have e4 := later' HR.out.2.1 b4
      have e5 := later' HR.out.2.1 b5
      have e6 := later' HR.out.2.1 b6
      have e7 := later' HR.out.2.1 b7
      have r0 := later' HR.out.2.1 d0
      have r1 := later' HR.out.2.1 d1
      have r2 := later' HR.out.2.1 d2
      have r3 := later' HR.out.2.1 d3
      have r4 := later' HR.out.2.1 d4
      have r5 := later' HR.out.2.1 d5
      have r6 := later' HR.out.2.1 d6
      have r7 := later' HR.out.2.1 d7
      have hrw := own_row (World.ownsRow_lit (base := 0) (e := 34) (size := 8) wr #[.int .i64 k1, .string (tx nm1), .bool f1, .int .u64 u1, .slice ap1 np1 cp1, .slice ak1 nk1 ck1, .slice ab1x nb1 cb1x, .slice aa1 na1 ca1, .int .i64 k2, .string (tx nm2), .bool f2, .int .u64 u2, .slice ap2 np2 cp2, .slice ak2 nk2 ck2, .slice ab2x nb2 cb2x, .slice aa2 na2 ca2] 2 (Nat.zero_le _) (by decide) rfl) Br
      have ba2 := (Below.refl wr.heap.size wr).alloc Nr (.cells #[.int .i64 k1, .string (tx nm1), .bool f1, .int .u64 u1, .slice ap1 np1 cp1, .slice ak1 nk1 ck1, .slice ab1x nb1 cb1x, .slice aa1 na1 ca1, .int .i64 k2, .string (tx nm2), .bool f2, .int .u64 u2, .slice ap2 np2 cp2, .slice ak2 nk2 ck2, .slice ab2x nb2 cb2x, .slice aa2 na2 ca2] 34)
      have HL := Hd (HF3.out _ (onB' HR.out.2.1 ba2) _ _ hrw)
      have HW := Hd (Ai (own_below HR.out.1 ba2) (onB' HR.out.2.1 ba2))
      clear hrw ba2 b0 b1 b2 b3 b4 b5 b6 b7 d0 d1 d2 d3 d4 d5 d6 d7
      go_wp2_with fail
      refine HL.out.mono ?_
      rintro e w8 ⟨⟨v8, rfl, ho8⟩, hb8⟩
      obtain ⟨a8, c8, rfl, -⟩ := own_shape ho8
      have HTx := Hd (texts_any FA (dedup F G) a8 c8 av cc (fun _ => True) (fun _ => True) w8 (own_row ho8 Br) (own_row HW.out.1 hb8))
      rw [decide_eq_true HAF.out] at HTx
      have HB8 := Hd (onB' HBw.out (onB' HW.out.2 hb8))
      clear ho8 hb8 HL e0 e1 e2 e3 e4 e5 e6 e7 r0 r1 r2 r3 r4 r5 r6 r7
      go_wp2_with fail
      refine HTx.out.mono ?_
      rintro e w9 ⟨rfl, hb9⟩
      have HB9 := Hd (onB' HB8.out hb9)
      clear hb9 HTx
      go_wp2_with fail
      go_ret
      exact ⟨rfl, HB9.out⟩
end Go.Proofs.Ytdjcdecbmeickaa
