import Derived.Test.YthehgcmhcioffaaGreatDoorMg8
namespace Go.Proofs.YthehgcmhcioffaaGreatDoor
set_option maxHeartbeats 64000000
set_option maxRecDepth 100000
open Go.RowKit Go.Lib
theorem altT_eq (a : Alt) : altT a = wordsL (if a.1 = 1 then nTx a.2.2.1 a.2.2.2.1 else wordsL a.2.1 a.2.2.2.2.1) [[45, 62], shE a.2.2.2.2.2] := rfl
theorem altText_any (a : Alt) (hT : TxE a.2.2.2.2.2) (hl : (altT a).length ≤ 20000000000) (hl1 : (wordsL a.2.1 a.2.2.2.2.1).length ≤ 20000000000) (hu : a.1 = 1 → NumF a.2.2.2.1) (aq : Option Addr) (cq : Nat) (K : Nat → Prop) (w : World) (k : Int) (nm : Nm) (f : Bool) (u : Int) (ap : Option Addr) (np cp : Nat) (ak : Option Addr) (nk ck : Nat) (ab : Option Addr) (nb cb : Nat) (aa : Option Addr) (na ca : Nat) (hp : PE w) (hQ : RowAt w K 9 1 (.slice aq a.2.2.2.2.1.length cq) a.2.2.2.2.1.length (namesV a.2.2.2.2.1)) (hE : ExAt w K a.2.2.2.2.2 [.int .i64 k, .string (tx nm), .bool f, .int .u64 u, .slice ap np cp, .slice ak nk ck, .slice ab nb cb, .slice aa na ca]) :
    Calls Tryz.prog 113 #[.agg #[.int .i64 a.1, .string (tx a.2.1), .bool a.2.2.1, .int .u64 a.2.2.2.1, .slice aq a.2.2.2.2.1.length cq, .int .i64 k, .string (tx nm), .bool f, .int .u64 u, .slice ap np cp, .slice ak nk ck, .slice ab nb cb, .slice aa na ca]] w fun e w' => e = .returned (.string (tx (altT a))) ∧ Below w.heap.size w w' := by
  have hx := (Below.refl w.heap.size w).alloc Nr (.cells #[.int .i64 a.1, .string (tx a.2.1), .bool a.2.2.1, .int .u64 a.2.2.2.1, .slice aq a.2.2.2.2.1.length cq, .int .i64 k, .string (tx nm), .bool f, .int .u64 u, .slice ap np cp, .slice ak nk ck, .slice ab nb cb, .slice aa na ca] 56)
  have HX := Hd (Ai hx (BoxW.alloc w #[.int .i64 a.1, .string (tx a.2.1), .bool a.2.2.1, .int .u64 a.2.2.2.1, .slice aq a.2.2.2.2.1.length cq, .int .i64 k, .string (tx nm), .bool f, .int .u64 u, .slice ap np cp, .slice ak nk ck, .slice ab nb cb, .slice aa na ca] 56))
  have hat := altT_eq a
  have HT := Hd (fun (V : World) (hb : Below w.heap.size w V) => hT K V k nm f u ap np cp ak nk ck ab nb cb aa na ca (hp.below hb) (hE.blw hb))
  have HN := Hd (words_any a.2.1 a.2.2.2.2.1 aq cq K _ (hQ.blw hx) (by omega))
  have HU := Hd (fun (V : World) (hb : Below w.heap.size w V) (g : a.1 = 1) => numText_any a.2.2.1 a.2.2.2.1 (hu g) V (hp.below hb))
  have HW : Hid (∀ (h0 : List UInt8) (V : World) (c : Option Addr) (d : Nat) (_ : wordsL h0 [[45, 62], shE a.2.2.2.2.2] = altT a) (_ : RowAt V (fun _ => True) 9 1 (.slice c 2 d) 2 [.string ⟨#[45, 62]⟩, .string (tx (shE a.2.2.2.2.2))]), Calls Tryz.prog 24 #[.string (tx h0), .slice c 2 d] V fun e w' => e = .returned (.string (tx (altT a))) ∧ Below V.heap.size V w') :=
    Hd (fun h0 V c d he h => by
      have := words_any h0 [[45, 62], shE a.2.2.2.2.2] c d _ V h (by rw [he]; omega)
      rwa [he] at this)
  have hmf := func_made
  clear hx hp hE hT hQ hu hl hl1
  generalize altT a = R at *
  generalize wordsL a.2.1 a.2.2.2.2.1 = N at *
  generalize shE a.2.2.2.2.2 = I at *
  generalize tx a.2.1 = tb at *
  generalize a.2.2.2.2.1.length = lb at *
  generalize a.2.2.2.1 = ub at *
  generalize a.2.2.1 = fb at *
  generalize a.1 = kb at *
  go_enter Tryz.func113, Tryz.ntmps113
  go_wp2_with fail
  refine HN.out.mono ?_
  rintro e w2 ⟨rfl, hb⟩
  have HB := Hd (Ai (onB' HX.out.1 hb) (HX.out.2.below hb))
  clear hb HN HX
  by_cases g : kb = 1
  · rw [if_pos g] at hat
    have HR := Hd hat
    have q0 : w2.cell? ⟨w.heap.size, 0, none⟩ = some (.int .i64 kb) := HB.out.2.1 0 _ rfl
    have q1 : w2.cell? ⟨w.heap.size, 1, none⟩ = some (.string tb) := HB.out.2.1 1 _ rfl
    have q2 : w2.cell? ⟨w.heap.size, 2, none⟩ = some (.bool fb) := HB.out.2.1 2 _ rfl
    have q3 : w2.cell? ⟨w.heap.size, 3, none⟩ = some (.int .u64 ub) := HB.out.2.1 3 _ rfl
    have q4 : w2.cell? ⟨w.heap.size, 4, none⟩ = some (.slice aq lb cq) := HB.out.2.1 4 _ rfl
    have q5 : w2.cell? ⟨w.heap.size, 5, none⟩ = some (.int .i64 k) := HB.out.2.1 5 _ rfl
    have q6 : w2.cell? ⟨w.heap.size, 6, none⟩ = some (.string (tx nm)) := HB.out.2.1 6 _ rfl
    have q7 : w2.cell? ⟨w.heap.size, 7, none⟩ = some (.bool f) := HB.out.2.1 7 _ rfl
    have q8 : w2.cell? ⟨w.heap.size, 8, none⟩ = some (.int .u64 u) := HB.out.2.1 8 _ rfl
    have q9 : w2.cell? ⟨w.heap.size, 9, none⟩ = some (.slice ap np cp) := HB.out.2.1 9 _ rfl
    have q10 : w2.cell? ⟨w.heap.size, 10, none⟩ = some (.slice ak nk ck) := HB.out.2.1 10 _ rfl
    have q11 : w2.cell? ⟨w.heap.size, 11, none⟩ = some (.slice ab nb cb) := HB.out.2.1 11 _ rfl
    have q12 : w2.cell? ⟨w.heap.size, 12, none⟩ = some (.slice aa na ca) := HB.out.2.1 12 _ rfl
    have HUw := Hd (HU.out _ HB.out.1 g)
    clear hat HU
    go_wp2_with fail
    refine HUw.out.mono ?_
    rintro e w3 ⟨rfl, hb⟩
    have HB3 := Hd (Ai (onB' HB.out.1 hb) (HB.out.2.below hb))
    clear hb HUw q0 q1 q2 q3 q4 q5 q6 q7 q8 q9 q10 q11 q12
    have q0 : w3.cell? ⟨w.heap.size, 0, none⟩ = some (.int .i64 kb) := HB3.out.2.1 0 _ rfl
    have q1 : w3.cell? ⟨w.heap.size, 1, none⟩ = some (.string tb) := HB3.out.2.1 1 _ rfl
    have q2 : w3.cell? ⟨w.heap.size, 2, none⟩ = some (.bool fb) := HB3.out.2.1 2 _ rfl
    have q3 : w3.cell? ⟨w.heap.size, 3, none⟩ = some (.int .u64 ub) := HB3.out.2.1 3 _ rfl
    have q4 : w3.cell? ⟨w.heap.size, 4, none⟩ = some (.slice aq lb cq) := HB3.out.2.1 4 _ rfl
    have q5 : w3.cell? ⟨w.heap.size, 5, none⟩ = some (.int .i64 k) := HB3.out.2.1 5 _ rfl
    have q6 : w3.cell? ⟨w.heap.size, 6, none⟩ = some (.string (tx nm)) := HB3.out.2.1 6 _ rfl
    have q7 : w3.cell? ⟨w.heap.size, 7, none⟩ = some (.bool f) := HB3.out.2.1 7 _ rfl
    have q8 : w3.cell? ⟨w.heap.size, 8, none⟩ = some (.int .u64 u) := HB3.out.2.1 8 _ rfl
    have q9 : w3.cell? ⟨w.heap.size, 9, none⟩ = some (.slice ap np cp) := HB3.out.2.1 9 _ rfl
    have q10 : w3.cell? ⟨w.heap.size, 10, none⟩ = some (.slice ak nk ck) := HB3.out.2.1 10 _ rfl
    have q11 : w3.cell? ⟨w.heap.size, 11, none⟩ = some (.slice ab nb cb) := HB3.out.2.1 11 _ rfl
    have q12 : w3.cell? ⟨w.heap.size, 12, none⟩ = some (.slice aa na ca) := HB3.out.2.1 12 _ rfl
    have HTw := Hd (HT.out _ HB3.out.1)
    go_wp2_with fail
    refine HTw.out.mono ?_
    rintro e w4 ⟨rfl, hb⟩
    have HB4 := Hd (onB' HB3.out.1 hb)
    have HWw := Hd (fun (c : Option Addr) (d : Nat) (V : World) (h : RowAt V (fun _ => True) 9 1 (.slice c 2 d) 2 [.string ⟨#[45, 62]⟩, .string (tx I)]) => HW.out _ V c d HR.out.symm h)
    clear hb HTw HW HT
    go_wp2_with fail
    refine (HWw.out _ _ _ (row_new _ #[.string ⟨#[45, 62]⟩, .string (tx I)] 2 (by unfold maxLen; omega) rfl)).mono ?_
    rintro e w5 ⟨rfl, hb⟩
    have HB5 := Hd (onB' (onB' HB4.out (Br.alloc Nr _)) hb)
    clear hb HWw
    go_wp2_with fail
    go_ret
    exact ⟨rfl, HB5.out⟩
  · rw [if_neg g] at hat
    have HR := Hd hat
    have q0 : w2.cell? ⟨w.heap.size, 0, none⟩ = some (.int .i64 kb) := HB.out.2.1 0 _ rfl
    have q1 : w2.cell? ⟨w.heap.size, 1, none⟩ = some (.string tb) := HB.out.2.1 1 _ rfl
    have q2 : w2.cell? ⟨w.heap.size, 2, none⟩ = some (.bool fb) := HB.out.2.1 2 _ rfl
    have q3 : w2.cell? ⟨w.heap.size, 3, none⟩ = some (.int .u64 ub) := HB.out.2.1 3 _ rfl
    have q4 : w2.cell? ⟨w.heap.size, 4, none⟩ = some (.slice aq lb cq) := HB.out.2.1 4 _ rfl
    have q5 : w2.cell? ⟨w.heap.size, 5, none⟩ = some (.int .i64 k) := HB.out.2.1 5 _ rfl
    have q6 : w2.cell? ⟨w.heap.size, 6, none⟩ = some (.string (tx nm)) := HB.out.2.1 6 _ rfl
    have q7 : w2.cell? ⟨w.heap.size, 7, none⟩ = some (.bool f) := HB.out.2.1 7 _ rfl
    have q8 : w2.cell? ⟨w.heap.size, 8, none⟩ = some (.int .u64 u) := HB.out.2.1 8 _ rfl
    have q9 : w2.cell? ⟨w.heap.size, 9, none⟩ = some (.slice ap np cp) := HB.out.2.1 9 _ rfl
    have q10 : w2.cell? ⟨w.heap.size, 10, none⟩ = some (.slice ak nk ck) := HB.out.2.1 10 _ rfl
    have q11 : w2.cell? ⟨w.heap.size, 11, none⟩ = some (.slice ab nb cb) := HB.out.2.1 11 _ rfl
    have q12 : w2.cell? ⟨w.heap.size, 12, none⟩ = some (.slice aa na ca) := HB.out.2.1 12 _ rfl
    clear hat HU
    have HTw := Hd (HT.out _ HB.out.1)
    go_wp2_with fail
    refine HTw.out.mono ?_
    rintro e w4 ⟨rfl, hb⟩
    have HB4 := Hd (onB' HB.out.1 hb)
    have HWw := Hd (fun (c : Option Addr) (d : Nat) (V : World) (h : RowAt V (fun _ => True) 9 1 (.slice c 2 d) 2 [.string ⟨#[45, 62]⟩, .string (tx I)]) => HW.out _ V c d HR.out.symm h)
    clear hb HTw HW HT
    go_wp2_with fail
    refine (HWw.out _ _ _ (row_new _ #[.string ⟨#[45, 62]⟩, .string (tx I)] 2 (by unfold maxLen; omega) rfl)).mono ?_
    rintro e w5 ⟨rfl, hb⟩
    have HB5 := Hd (onB' (onB' HB4.out (Br.alloc Nr _)) hb)
    clear hb HWw
    go_wp2_with fail
    go_ret
    exact ⟨rfl, HB5.out⟩
theorem shlet_any (k : Int) (nm : Nm) (f : Bool) (u : Int) (ps : List Nm) (ks : List Ex) (bl : List Bnd) (al : List Alt) (ap : Option Addr) (cp : Nat) (ak : Option Addr) (ck : Nat) (ab : Option Addr) (cb : Nat) (aa : Option Addr) (ca : Nat) (K : Nat → Prop) (xk xb xa : List Value) (w : World) (hp : PE w) (hT : ∀ y, y ∈ ks → TxE y ∧ (shE y).length ≤ 20000000000) (hn : ks.length ≤ 1000000) (hTb : ∀ y, y ∈ bl → TxE y.2.2 ∧ (bindT y).length ≤ 20000000000) (hnb : bl.length ≤ 1000000) (hl : (wordsL [108, 101, 116] [joinL [59, 32] (bl.map bindT), [105, 110], innT ks]).length ≤ 20000000000) (hK : RowAt w K 37 8 (.slice ak ks.length ck) ks.length xk) (tK : ExsAt w K ks xk) (hB : RowAt w K 39 10 (.slice ab bl.length cb) bl.length xb) (tB : BndsAt w K bl xb) :
    Calls Tryz.prog 66 #[.agg #[.int .i64 k, .string (tx nm), .bool f, .int .u64 u, .slice ap ps.length cp, .slice ak ks.length ck, .slice ab bl.length cb, .slice aa al.length ca]] w fun e w' => e = .returned (.string (tx (wordsL [108, 101, 116] [joinL [59, 32] (bl.map bindT), [105, 110], innT ks]))) ∧ Below w.heap.size w w' := by
  have hx := (Below.refl w.heap.size w).alloc Nr (.cells #[.int .i64 k, .string (tx nm), .bool f, .int .u64 u, .slice ap ps.length cp, .slice ak ks.length ck, .slice ab bl.length cb, .slice aa al.length ca] 48)
  have HX := Hd (Ai hx (BoxW.alloc w #[.int .i64 k, .string (tx nm), .bool f, .int .u64 u, .slice ap ps.length cp, .slice ak ks.length ck, .slice ab bl.length cb, .slice aa al.length ca] 48))
  have hlJ : (joinL [59, 32] (bl.map bindT)).length ≤ 20000000000 := Nt (mem_words (x := joinL [59, 32] (bl.map bindT)) (by simp)) hl
  have HI := Hd (fun (V : World) (hb : Below w.heap.size w V) => shinner_any k nm f u ps ks bl al ap cp ak ck ab cb aa ca K xk xb xa V (hp.below hb) hT hn (hK.blw hb) (tK.blw hb))
  have HE := Hd (fun (V : World) (hb : Below w.heap.size w V) => each_bd 27 (enters_of Tryz.func27 (by kernel_rfl) rfl) bindT bl hnb ab cb K K xb V (hB.blw hb) (tB.blw hb)
    (fun j hj aq cq k nm f u ap np cp ak nk ck ab nb cb aa na ca V2 hV hQ hE => bindText_any bl[j] (hTb _ (List.getElem_mem hj)).1 (hTb _ (List.getElem_mem hj)).2 aq cq K V2 k nm f u ap np cp ak nk ck ab nb cb aa na ca ((hp.below hb).below hV) hQ hE))
  have HJ := Hd (fun (V : World) (a : Option Addr) (c : Nat) (h : RowAt V (fun _ => True) 9 1 (.slice a (bl.map bindT).length c) (bl.map bindT).length (namesV (bl.map bindT))) => irow_any (bl.map bindT) (by rw [List.length_map]; exact hnb) a c _ V h (by omega))
  have HW : Hid (∀ (V : World) (a : Option Addr) (c : Nat) (_ : RowAt V (fun _ => True) 9 1 (.slice a 3 c) 3 [.string (tx (joinL [59, 32] (bl.map bindT))), .string ⟨#[105, 110]⟩, .string (tx (innT ks))]), Calls Tryz.prog 24 #[.string ⟨#[108, 101, 116]⟩, .slice a 3 c] V fun e w' => e = .returned (.string (tx (wordsL [108, 101, 116] [joinL [59, 32] (bl.map bindT), [105, 110], innT ks]))) ∧ Below V.heap.size V w') :=
    Hd (fun V a c h => words_any [108, 101, 116] [joinL [59, 32] (bl.map bindT), [105, 110], innT ks] a c _ V h (by omega))
  generalize wordsL [108, 101, 116] [joinL [59, 32] (bl.map bindT), [105, 110], innT ks] = R at *
  generalize bl.map bindT = ot at *
  generalize joinL [59, 32] ot = J at *
  generalize innT ks = I at *
  have hmf := func_made
  clear hx hp hK tK hT hB tB hTb hl hlJ
  go_enter Tryz.func66, Tryz.ntmps66
  go_upto_region 1 with fail
  generalize (w.alloc (.cells #[.int .i64 k, .string (tx nm), .bool f, .int .u64 u, .slice ap ps.length cp, .slice ak ks.length ck, .slice ab bl.length cb, .slice aa al.length ca] 48)) = W at *
  have HS := Hd (fun (V : World) (hb : Below W.heap.size W V) => (⟨(HX.out.2.below hb).1 0 _ rfl, (HX.out.2.below hb).1 1 _ rfl, (HX.out.2.below hb).1 2 _ rfl, (HX.out.2.below hb).1 3 _ rfl, (HX.out.2.below hb).1 4 _ rfl, (HX.out.2.below hb).1 5 _ rfl, (HX.out.2.below hb).1 6 _ rfl, (HX.out.2.below hb).1 7 _ rfl⟩ : (V.cell? ⟨w.heap.size, 0, none⟩ = some (.int .i64 k) ∧ V.cell? ⟨w.heap.size, 1, none⟩ = some (.string (tx nm)) ∧ V.cell? ⟨w.heap.size, 2, none⟩ = some (.bool f) ∧ V.cell? ⟨w.heap.size, 3, none⟩ = some (.int .u64 u) ∧ V.cell? ⟨w.heap.size, 4, none⟩ = some (.slice ap ps.length cp) ∧ V.cell? ⟨w.heap.size, 5, none⟩ = some (.slice ak ks.length ck) ∧ V.cell? ⟨w.heap.size, 6, none⟩ = some (.slice ab bl.length cb) ∧ V.cell? ⟨w.heap.size, 7, none⟩ = some (.slice aa al.length ca))))
  have d0 : W.cell? ⟨w.heap.size, 0, none⟩ = some (.int .i64 k) := HX.out.2.1 0 _ rfl
  have d1 : W.cell? ⟨w.heap.size, 1, none⟩ = some (.string (tx nm)) := HX.out.2.1 1 _ rfl
  have d2 : W.cell? ⟨w.heap.size, 2, none⟩ = some (.bool f) := HX.out.2.1 2 _ rfl
  have d3 : W.cell? ⟨w.heap.size, 3, none⟩ = some (.int .u64 u) := HX.out.2.1 3 _ rfl
  have d4 : W.cell? ⟨w.heap.size, 4, none⟩ = some (.slice ap ps.length cp) := HX.out.2.1 4 _ rfl
  have d5 : W.cell? ⟨w.heap.size, 5, none⟩ = some (.slice ak ks.length ck) := HX.out.2.1 5 _ rfl
  have d6 : W.cell? ⟨w.heap.size, 6, none⟩ = some (.slice ab bl.length cb) := HX.out.2.1 6 _ rfl
  have d7 : W.cell? ⟨w.heap.size, 7, none⟩ = some (.slice aa al.length ca) := HX.out.2.1 7 _ rfl
  go_region_held3 (fun W' => W'.cell? ⟨w.heap.size, 0, none⟩ = some (.int .i64 k) ∧ W'.cell? ⟨w.heap.size, 1, none⟩ = some (.string (tx nm)) ∧ W'.cell? ⟨w.heap.size, 2, none⟩ = some (.bool f) ∧ W'.cell? ⟨w.heap.size, 3, none⟩ = some (.int .u64 u) ∧ W'.cell? ⟨w.heap.size, 4, none⟩ = some (.slice ap ps.length cp) ∧ W'.cell? ⟨w.heap.size, 5, none⟩ = some (.slice ak ks.length ck) ∧ W'.cell? ⟨w.heap.size, 6, none⟩ = some (.slice ab bl.length cb) ∧ W'.cell? ⟨w.heap.size, 7, none⟩ = some (.slice aa al.length ca)) (first | exact HS.out _ H6 | exact HS.out _ HI5 | exact HS.out _ HJ4 | exact HS.out _ HE3 | exact HS.out _ Br | go_keep) (first
    | (revert HI5; intro HI5; revert HJ4; intro HJ4; go_at_call 24
       refine (HW.out _ _ _ (row_new _ #[.string (tx J), .string ⟨#[105, 110]⟩, .string (tx I)] 3 (by unfold maxLen; omega) rfl)).mono ?_
       rintro e w6 ⟨rfl, hbw6⟩
       have H6 : Below W.heap.size W w6 := (by first | exact onB' (onB' HI5 (Br.alloc Nr _)) hbw6 | exact onB' (onB' HJ4 (Br.alloc Nr _)) hbw6)
       clear hbw6)
    | (revert hrE; intro hrE; go_at_call 109
       refine (HJ.out _ _ _ (by first | exact hrE | exact hrE.blw hbI)).mono ?_
       rintro e w4 ⟨rfl, hbw4⟩
       have HJ4 : Below W.heap.size W w4 := onB' (by first | exact HI5 | exact HE3 | exact Br.drew | exact Below.refl _ _) hbw4
       clear hbw4)
    | (go_at_call 110
       refine (HE.out _ (onB' HX.out.1 (by first | exact HI5 | exact Br.drew | exact Below.refl _ _))).mono ?_
       rintro e w3 ⟨⟨v2, rfl, ho⟩, hbw3⟩
       have HE3 : Below W.heap.size W w3 := onB' (by first | exact HI5 | exact Br.drew | exact Below.refl _ _) hbw3
       obtain ⟨a2, c2, rfl, -⟩ := own_shape ho
       have hrE := row_own ho Br
       clear ho
       clear hbw3)
    | (go_at_call 111
       refine (HI.out _ (onB' HX.out.1 (by first | exact HJ4 | exact HE3 | exact Br.drew | exact Below.refl _ _))).mono ?_
       rintro e w5 ⟨rfl, hbw5⟩
       have HI5 : Below W.heap.size W w5 := onB' (by first | exact HJ4 | exact HE3 | exact Br.drew | exact Below.refl _ _) hbw5
       have hbI := hbw5
       clear hbw5)
)
  all_goals go_wp2_with fail
  all_goals go_ret
  all_goals exact ⟨rfl, onB' HX.out.1 H6⟩
theorem shcase_any (k : Int) (nm : Nm) (f : Bool) (u : Int) (ps : List Nm) (ks : List Ex) (bl : List Bnd) (al : List Alt) (ap : Option Addr) (cp : Nat) (ak : Option Addr) (ck : Nat) (ab : Option Addr) (cb : Nat) (aa : Option Addr) (ca : Nat) (K : Nat → Prop) (xk xb xa : List Value) (w : World) (hp : PE w) (hT : ∀ y, y ∈ ks → TxE y ∧ (shE y).length ≤ 20000000000) (hn : ks.length ≤ 1000000) (hTa : ∀ y, y ∈ al → TxE y.2.2.2.2.2 ∧ (altT y).length ≤ 20000000000 ∧ (wordsL y.2.1 y.2.2.2.2.1).length ≤ 20000000000 ∧ (y.1 = 1 → NumF y.2.2.2.1)) (hna : al.length ≤ 1000000) (hl : (wordsL [99, 97, 115, 101] [innT ks, [111, 102], 123 :: (joinL [59, 32] (al.map altT) ++ [125])]).length ≤ 20000000000) (hK : RowAt w K 37 8 (.slice ak ks.length ck) ks.length xk) (tK : ExsAt w K ks xk) (hA : RowAt w K 56 13 (.slice aa al.length ca) al.length xa) (tA : AltsAt w K al xa) :
    Calls Tryz.prog 67 #[.agg #[.int .i64 k, .string (tx nm), .bool f, .int .u64 u, .slice ap ps.length cp, .slice ak ks.length ck, .slice ab bl.length cb, .slice aa al.length ca]] w fun e w' => e = .returned (.string (tx (wordsL [99, 97, 115, 101] [innT ks, [111, 102], 123 :: (joinL [59, 32] (al.map altT) ++ [125])]))) ∧ Below w.heap.size w w' := by
  have hx := (Below.refl w.heap.size w).alloc Nr (.cells #[.int .i64 k, .string (tx nm), .bool f, .int .u64 u, .slice ap ps.length cp, .slice ak ks.length ck, .slice ab bl.length cb, .slice aa al.length ca] 48)
  have HX := Hd (Ai hx (BoxW.alloc w #[.int .i64 k, .string (tx nm), .bool f, .int .u64 u, .slice ap ps.length cp, .slice ak ks.length ck, .slice ab bl.length cb, .slice aa al.length ca] 48))
  have hlT : (123 :: (joinL [59, 32] (al.map altT) ++ [125])).length ≤ 20000000000 := Nt (mem_words (x := 123 :: (joinL [59, 32] (al.map altT) ++ [125])) (by simp)) hl
  have hlJ : (joinL [59, 32] (al.map altT)).length ≤ 20000000000 := by simp only [List.length_cons, List.length_append] at hlT; omega
  have hsz : (tx (joinL [59, 32] (al.map altT))).size ≤ 20000000000 := by rw [tx_size]; exact hlJ
  have hsz2 : (⟨#[123]⟩ ++ tx (joinL [59, 32] (al.map altT)) : ByteArray).size ≤ 20000000001 := by rw [show (⟨#[123]⟩ : ByteArray) = tx [123] from rfl, tx_app, tx_size]; simp only [List.length_append, List.length_cons, List.length_nil]; omega
  have hs1 : ¬ 9223372036854775807 < 1 + (tx (joinL [59, 32] (al.map altT))).size := by omega
  have hs2 : ¬ 9223372036854775807 < 1 + (tx (joinL [59, 32] (al.map altT))).size + 1 := by omega
  have e3 : tx (123 :: (joinL [59, 32] (al.map altT) ++ [125])) = ⟨#[123]⟩ ++ tx (joinL [59, 32] (al.map altT)) ++ ⟨#[125]⟩ := by rw [show (⟨#[123]⟩ : ByteArray) = tx [123] from rfl, show (⟨#[125]⟩ : ByteArray) = tx [125] from rfl, tx_app, tx_app]; rfl
  have HI := Hd (fun (V : World) (hb : Below w.heap.size w V) => shinner_any k nm f u ps ks bl al ap cp ak ck ab cb aa ca K xk xb xa V (hp.below hb) hT hn (hK.blw hb) (tK.blw hb))
  have HE := Hd (fun (V : World) (hb : Below w.heap.size w V) => each_al 113 (enters_of Tryz.func113 (by kernel_rfl) rfl) altT al hna aa ca K K xa V (hA.blw hb) (tA.blw hb)
    (fun j hj aq cq k nm f u ap np cp ak nk ck ab nb cb aa na ca V2 hV hQ hE => altText_any al[j] (hTa _ (List.getElem_mem hj)).1 (hTa _ (List.getElem_mem hj)).2.1 (hTa _ (List.getElem_mem hj)).2.2.1 (hTa _ (List.getElem_mem hj)).2.2.2 aq cq K V2 k nm f u ap np cp ak nk ck ab nb cb aa na ca ((hp.below hb).below hV) hQ hE))
  have HJ := Hd (fun (V : World) (a : Option Addr) (c : Nat) (h : RowAt V (fun _ => True) 9 1 (.slice a (al.map altT).length c) (al.map altT).length (namesV (al.map altT))) => irow_any (al.map altT) (by rw [List.length_map]; exact hna) a c _ V h (by omega))
  have HW : Hid (∀ (V : World) (a : Option Addr) (c : Nat) (_ : RowAt V (fun _ => True) 9 1 (.slice a 3 c) 3 [.string (tx (innT ks)), .string ⟨#[111, 102]⟩, .string (⟨#[123]⟩ ++ tx (joinL [59, 32] (al.map altT)) ++ ⟨#[125]⟩)]), Calls Tryz.prog 24 #[.string ⟨#[99, 97, 115, 101]⟩, .slice a 3 c] V fun e w' => e = .returned (.string (tx (wordsL [99, 97, 115, 101] [innT ks, [111, 102], 123 :: (joinL [59, 32] (al.map altT) ++ [125])]))) ∧ Below V.heap.size V w') :=
    Hd (fun V a c h => words_any [99, 97, 115, 101] [innT ks, [111, 102], 123 :: (joinL [59, 32] (al.map altT) ++ [125])] a c _ V (by rw [← e3] at h; exact h) (by omega))
  generalize wordsL [99, 97, 115, 101] [innT ks, [111, 102], 123 :: (joinL [59, 32] (al.map altT) ++ [125])] = R at *
  generalize al.map altT = ot at *
  generalize joinL [59, 32] ot = J at *
  generalize innT ks = I at *
  have hmf := func_made
  clear hx hp hK tK hT hA tA hTa hl hlJ hlT e3
  go_enter Tryz.func67, Tryz.ntmps67
  go_upto_region 1 with fail
  generalize (w.alloc (.cells #[.int .i64 k, .string (tx nm), .bool f, .int .u64 u, .slice ap ps.length cp, .slice ak ks.length ck, .slice ab bl.length cb, .slice aa al.length ca] 48)) = W at *
  have HS := Hd (fun (V : World) (hb : Below W.heap.size W V) => (⟨(HX.out.2.below hb).1 0 _ rfl, (HX.out.2.below hb).1 1 _ rfl, (HX.out.2.below hb).1 2 _ rfl, (HX.out.2.below hb).1 3 _ rfl, (HX.out.2.below hb).1 4 _ rfl, (HX.out.2.below hb).1 5 _ rfl, (HX.out.2.below hb).1 6 _ rfl, (HX.out.2.below hb).1 7 _ rfl⟩ : (V.cell? ⟨w.heap.size, 0, none⟩ = some (.int .i64 k) ∧ V.cell? ⟨w.heap.size, 1, none⟩ = some (.string (tx nm)) ∧ V.cell? ⟨w.heap.size, 2, none⟩ = some (.bool f) ∧ V.cell? ⟨w.heap.size, 3, none⟩ = some (.int .u64 u) ∧ V.cell? ⟨w.heap.size, 4, none⟩ = some (.slice ap ps.length cp) ∧ V.cell? ⟨w.heap.size, 5, none⟩ = some (.slice ak ks.length ck) ∧ V.cell? ⟨w.heap.size, 6, none⟩ = some (.slice ab bl.length cb) ∧ V.cell? ⟨w.heap.size, 7, none⟩ = some (.slice aa al.length ca))))
  have d0 : W.cell? ⟨w.heap.size, 0, none⟩ = some (.int .i64 k) := HX.out.2.1 0 _ rfl
  have d1 : W.cell? ⟨w.heap.size, 1, none⟩ = some (.string (tx nm)) := HX.out.2.1 1 _ rfl
  have d2 : W.cell? ⟨w.heap.size, 2, none⟩ = some (.bool f) := HX.out.2.1 2 _ rfl
  have d3 : W.cell? ⟨w.heap.size, 3, none⟩ = some (.int .u64 u) := HX.out.2.1 3 _ rfl
  have d4 : W.cell? ⟨w.heap.size, 4, none⟩ = some (.slice ap ps.length cp) := HX.out.2.1 4 _ rfl
  have d5 : W.cell? ⟨w.heap.size, 5, none⟩ = some (.slice ak ks.length ck) := HX.out.2.1 5 _ rfl
  have d6 : W.cell? ⟨w.heap.size, 6, none⟩ = some (.slice ab bl.length cb) := HX.out.2.1 6 _ rfl
  have d7 : W.cell? ⟨w.heap.size, 7, none⟩ = some (.slice aa al.length ca) := HX.out.2.1 7 _ rfl
  go_region_held3 (fun W' => W'.cell? ⟨w.heap.size, 0, none⟩ = some (.int .i64 k) ∧ W'.cell? ⟨w.heap.size, 1, none⟩ = some (.string (tx nm)) ∧ W'.cell? ⟨w.heap.size, 2, none⟩ = some (.bool f) ∧ W'.cell? ⟨w.heap.size, 3, none⟩ = some (.int .u64 u) ∧ W'.cell? ⟨w.heap.size, 4, none⟩ = some (.slice ap ps.length cp) ∧ W'.cell? ⟨w.heap.size, 5, none⟩ = some (.slice ak ks.length ck) ∧ W'.cell? ⟨w.heap.size, 6, none⟩ = some (.slice ab bl.length cb) ∧ W'.cell? ⟨w.heap.size, 7, none⟩ = some (.slice aa al.length ca)) (first | exact HS.out _ H6 | exact HS.out _ HI5 | exact HS.out _ HJ4 | exact HS.out _ HE3 | exact HS.out _ Br | go_keep) (first
    | (revert HI5; intro HI5; revert HJ4; intro HJ4; go_at_call 24
       refine (HW.out _ _ _ (row_new _ #[.string (tx I), .string ⟨#[111, 102]⟩, .string (⟨#[123]⟩ ++ tx J ++ ⟨#[125]⟩)] 3 (by unfold maxLen; omega) rfl)).mono ?_
       rintro e w6 ⟨rfl, hbw6⟩
       have H6 : Below W.heap.size W w6 := (by first | exact onB' (onB' HI5 (Br.alloc Nr _)) hbw6 | exact onB' (onB' HJ4 (Br.alloc Nr _)) hbw6)
       clear hbw6)
    | (revert hrE; intro hrE; go_at_call 109
       refine (HJ.out _ _ _ (by first | exact hrE | exact hrE.blw hbI)).mono ?_
       rintro e w4 ⟨rfl, hbw4⟩
       have HJ4 : Below W.heap.size W w4 := onB' (by first | exact HI5 | exact HE3 | exact Br.drew | exact Below.refl _ _) hbw4
       clear hbw4)
    | (go_at_call 112
       refine (HE.out _ (onB' HX.out.1 (by first | exact HI5 | exact Br.drew | exact Below.refl _ _))).mono ?_
       rintro e w3 ⟨⟨v2, rfl, ho⟩, hbw3⟩
       have HE3 : Below W.heap.size W w3 := onB' (by first | exact HI5 | exact Br.drew | exact Below.refl _ _) hbw3
       obtain ⟨a2, c2, rfl, -⟩ := own_shape ho
       have hrE := row_own ho Br
       clear ho
       clear hbw3)
    | (go_at_call 111
       refine (HI.out _ (onB' HX.out.1 (by first | exact HJ4 | exact HE3 | exact Br.drew | exact Below.refl _ _))).mono ?_
       rintro e w5 ⟨rfl, hbw5⟩
       have HI5 : Below W.heap.size W w5 := onB' (by first | exact HJ4 | exact HE3 | exact Br.drew | exact Below.refl _ _) hbw5
       have hbI := hbw5
       clear hbw5)
)
  all_goals go_wp2_with fail
  all_goals go_ret
  all_goals exact ⟨rfl, onB' HX.out.1 H6⟩
theorem shop_any (k : Int) (nm : Nm) (f : Bool) (u : Int) (ps : List Nm) (ks : List Ex) (bl : List Bnd) (al : List Alt) (ap : Option Addr) (cp : Nat) (ak : Option Addr) (ck : Nat) (ab : Option Addr) (cb : Nat) (aa : Option Addr) (ca : Nat) (K : Nat → Prop) (xk xb xa : List Value) (w : World) (hp : PE w) (hT : ∀ y, y ∈ ks → TxE y ∧ (shE y).length ≤ 20000000000) (hn : ks.length ≤ 1000000) (hln : nm.length ≤ 20000000000) (hl : isLet nm = true → (wordsL nm (ks.map atomT)).length ≤ 20000000000) (hl2 : isLet nm = false → (joinL (32 :: (nm ++ [32])) (ks.map atomT)).length ≤ 20000000000) (hK : RowAt w K 37 8 (.slice ak ks.length ck) ks.length xk) (tK : ExsAt w K ks xk) :
    Calls Tryz.prog 65 #[.agg #[.int .i64 k, .string (tx nm), .bool f, .int .u64 u, .slice ap ps.length cp, .slice ak ks.length ck, .slice ab bl.length cb, .slice aa al.length ca]] w fun e w' => e = .returned (.string (tx (if isLet nm then wordsL nm (ks.map atomT) else joinL (32 :: (nm ++ [32])) (ks.map atomT)))) ∧ Below w.heap.size w w' := by
  have hx := (Below.refl w.heap.size w).alloc Nr (.cells #[.int .i64 k, .string (tx nm), .bool f, .int .u64 u, .slice ap ps.length cp, .slice ak ks.length ck, .slice ab bl.length cb, .slice aa al.length ca] 48)
  have HX := Hd (Ai hx (BoxW.alloc w #[.int .i64 k, .string (tx nm), .bool f, .int .u64 u, .slice ap ps.length cp, .slice ak ks.length ck, .slice ab bl.length cb, .slice aa al.length ca] 48))
  have HA := Hd (fun (V : World) (hb : Below w.heap.size w V) => shatoms_any ks hT hn K xk V k nm f u ap ps.length cp ak ck ab bl.length cb aa al.length ca (hp.below hb) (hK.blw hb) (tK.blw hb))
  have HM := Hd (fun (h : isLet nm = true) (V : World) (hb : Below w.heap.size w V) => shnamed_any k nm f u ps ks bl al ap cp ak ck ab cb aa ca K xk xb xa V (hp.below hb) hT hn (hl h) (hK.blw hb) (tK.blw hb))
  have HL := Hd (isLet_any nm (w.alloc (.cells #[.int .i64 k, .string (tx nm), .bool f, .int .u64 u, .slice ap ps.length cp, .slice ak ks.length ck, .slice ab bl.length cb, .slice aa al.length ca] 48)))
  have e3 : tx (32 :: (nm ++ [32])) = ⟨#[32]⟩ ++ tx nm ++ ⟨#[32]⟩ := by rw [show (⟨#[32]⟩ : ByteArray) = tx [32] from rfl, tx_app, tx_app]; rfl
  have hsz : (tx nm).size ≤ 20000000000 := by rw [tx_size]; exact hln
  have hsz2 : (⟨#[32]⟩ ++ tx nm : ByteArray).size ≤ 20000000001 := by rw [show (⟨#[32]⟩ : ByteArray) = tx [32] from rfl, tx_app, tx_size]; simp only [List.length_append, List.length_cons, List.length_nil]; omega
  have hs1 : ¬ 9223372036854775807 < 1 + (tx nm).size := by omega
  have hs2 : ¬ 9223372036854775807 < 1 + (tx nm).size + 1 := by omega
  have HJ : Hid (isLet nm = false → ∀ (V : World) (a : Option Addr) (c : Nat) (_ : RowAt V (fun _ => True) 9 1 (.slice a (ks.map atomT).length c) (ks.map atomT).length (namesV (ks.map atomT))), Calls Tryz.prog 107 #[.slice a (ks.map atomT).length c, .string (⟨#[32]⟩ ++ tx nm ++ ⟨#[32]⟩)] V fun e w' => e = .returned (.string (tx (joinL (32 :: (nm ++ [32])) (ks.map atomT)))) ∧ Below V.heap.size V w') :=
    Hd (fun hf V a c h => by rw [← e3]; exact join_any _ _ (by rw [List.length_map]; exact hn) a c _ V h (by have := hl2 hf; omega))
  generalize joinL (32 :: (nm ++ [32])) (ks.map atomT) = RJ at *
  generalize wordsL nm (ks.map atomT) = RW at *
  generalize ks.map atomT = ot at *
  generalize hR : (if isLet nm = true then RW else RJ) = R at *
  have hmf := func_made
  clear hx hp hK tK hT hl hl2 e3 hln
  go_enter Tryz.func65, Tryz.ntmps65
  go_wp2_with fail
  refine HL.out.mono ?_
  rintro e w2 ⟨rfl, hb⟩
  have HB := Hd (Ai (onB' HX.out.1 hb) (HX.out.2.below hb))
  clear hb HL HX
  have d0 : w2.cell? ⟨w.heap.size, 0, none⟩ = some (.int .i64 k) := HB.out.2.1 0 _ rfl
  have d1 : w2.cell? ⟨w.heap.size, 1, none⟩ = some (.string (tx nm)) := HB.out.2.1 1 _ rfl
  have d2 : w2.cell? ⟨w.heap.size, 2, none⟩ = some (.bool f) := HB.out.2.1 2 _ rfl
  have d3 : w2.cell? ⟨w.heap.size, 3, none⟩ = some (.int .u64 u) := HB.out.2.1 3 _ rfl
  have d4 : w2.cell? ⟨w.heap.size, 4, none⟩ = some (.slice ap ps.length cp) := HB.out.2.1 4 _ rfl
  have d5 : w2.cell? ⟨w.heap.size, 5, none⟩ = some (.slice ak ks.length ck) := HB.out.2.1 5 _ rfl
  have d6 : w2.cell? ⟨w.heap.size, 6, none⟩ = some (.slice ab bl.length cb) := HB.out.2.1 6 _ rfl
  have d7 : w2.cell? ⟨w.heap.size, 7, none⟩ = some (.slice aa al.length ca) := HB.out.2.1 7 _ rfl
  cases hq : isLet nm with
  | true =>
    have HMw := Hd (HM.out hq _ HB.out.1)
    rw [hq, if_pos rfl] at hR
    subst hR
    clear hq HM HJ HA
    go_wp2_with fail
    refine HMw.out.mono ?_
    rintro e w3 ⟨rfl, hb⟩
    have HB3 := Hd (onB' HB.out.1 hb)
    clear hb HMw
    go_wp2_with fail
    go_ret
    exact ⟨rfl, HB3.out⟩
  | false =>
    have HJw := Hd (HJ.out hq)
    rw [hq, if_neg (by decide)] at hR
    subst hR
    clear hq HM HJ
    have HX := HB
    have HS := Hd (fun (V : World) (hb : Below w2.heap.size w2 V) => (⟨(HX.out.2.below hb).1 0 _ rfl, (HX.out.2.below hb).1 1 _ rfl, (HX.out.2.below hb).1 2 _ rfl, (HX.out.2.below hb).1 3 _ rfl, (HX.out.2.below hb).1 4 _ rfl, (HX.out.2.below hb).1 5 _ rfl, (HX.out.2.below hb).1 6 _ rfl, (HX.out.2.below hb).1 7 _ rfl⟩ : (V.cell? ⟨w.heap.size, 0, none⟩ = some (.int .i64 k) ∧ V.cell? ⟨w.heap.size, 1, none⟩ = some (.string (tx nm)) ∧ V.cell? ⟨w.heap.size, 2, none⟩ = some (.bool f) ∧ V.cell? ⟨w.heap.size, 3, none⟩ = some (.int .u64 u) ∧ V.cell? ⟨w.heap.size, 4, none⟩ = some (.slice ap ps.length cp) ∧ V.cell? ⟨w.heap.size, 5, none⟩ = some (.slice ak ks.length ck) ∧ V.cell? ⟨w.heap.size, 6, none⟩ = some (.slice ab bl.length cb) ∧ V.cell? ⟨w.heap.size, 7, none⟩ = some (.slice aa al.length ca))))
    go_upto_region 0 with fail
    go_region_held3 (fun W' => W'.cell? ⟨w.heap.size, 0, none⟩ = some (.int .i64 k) ∧ W'.cell? ⟨w.heap.size, 1, none⟩ = some (.string (tx nm)) ∧ W'.cell? ⟨w.heap.size, 2, none⟩ = some (.bool f) ∧ W'.cell? ⟨w.heap.size, 3, none⟩ = some (.int .u64 u) ∧ W'.cell? ⟨w.heap.size, 4, none⟩ = some (.slice ap ps.length cp) ∧ W'.cell? ⟨w.heap.size, 5, none⟩ = some (.slice ak ks.length ck) ∧ W'.cell? ⟨w.heap.size, 6, none⟩ = some (.slice ab bl.length cb) ∧ W'.cell? ⟨w.heap.size, 7, none⟩ = some (.slice aa al.length ca)) (first | exact HS.out _ H4 | exact HS.out _ H3 | exact HS.out _ Br | go_keep) (first
    | (revert hr3
       intro hr3
       go_at_call 107
       refine (HJw.out _ _ _ hr3).mono ?_
       rintro e w4 ⟨rfl, hb4⟩
       have H4 : Below w2.heap.size w2 w4 := onB' H3 hb4
       clear hb4)
    | (go_at_call 103
       refine (HA.out _ (onB' HX.out.1 (by first  | exact Br.drew | exact Below.refl _ _))).mono ?_
       rintro e w3 ⟨⟨v3, rfl, ho⟩, hb3⟩
       have H3 : Below w2.heap.size w2 w3 := onB' (by first  | exact Br.drew | exact Below.refl _ _) hb3
       obtain ⟨a3, c3, rfl, -⟩ := own_shape ho
       have hr3 := row_own ho Br
       clear hb3))
    all_goals go_wp2_with fail
    all_goals go_ret
    all_goals exact ⟨rfl, onB' HX.out.1 H4⟩
theorem own_first {W : World} {base n : Nat} {v x : Value} {r : List Value} {e : TypeId} (h : W.ownsRow base e 1 v n (x :: r)) : ∃ g c, v = .slice (some ⟨g, 0, none⟩) n c ∧ base ≤ g ∧ g < W.heap.size ∧ n ≤ c ∧ W.cell? ⟨g, 0, none⟩ = some x ∧ W.frozen? ⟨g, 0, none⟩ = false ∧ ∀ y, RowAt (W.setCell ⟨g, 0, none⟩ y) (fun _ => True) e 1 (.slice (some ⟨g, 0, none⟩) n c) n (y :: r) := by
  have hr := RowAt.of (K := fun _ => True) h fun _ _ => trivial
  obtain ⟨h0, ⟨rfl, rfl⟩ | ⟨g, c, cur, rfl, hb, hg, h1, h2, h3, h4⟩⟩ := id h
  · simp at h0
  · obtain ⟨g', o', ea, -, -, -, hx⟩ := hr.at (by simp at h0; omega)
    cases ea
    have h5 := hx 0 x rfl
    have lt : g < W.heap.size := Bl h5
    refine ⟨g, c, rfl, hb, lt, h1, h5, h.frozenAt 0, fun y => ⟨by simpa using h0, Or.inr ⟨g, 0, c, _, rfl, trivial, heap_setCell_same W g 0 cur e y hg, h1, h2, fun j u hj => ?_⟩⟩⟩
    cases j with
    | zero => cases hj; exact at_sam _ h5
    | succ j => exact (at_oth _ g 0 (0 + (j + 1)) _ (by omega)).trans (hx (j + 1) u hj)
theorem shapp_any (k : Int) (nm : Nm) (f : Bool) (u : Int) (ps : List Nm) (ks : List Ex) (bl : List Bnd) (al : List Alt) (ap : Option Addr) (cp : Nat) (ak : Option Addr) (ck : Nat) (ab : Option Addr) (cb : Nat) (aa : Option Addr) (ca : Nat) (K : Nat → Prop) (xk _ _ : List Value) (w : World) (hp : PE w) (hT : ∀ y, y ∈ ks → TxE y ∧ (shE y).length ≤ 20000000000) (hn : ks.length ≤ 1000000) (hl : (joinL [32] (headL ks (ks.map atomT))).length ≤ 20000000000) (h2 : 0 < ks.length) (hK : RowAt w K 37 8 (.slice ak ks.length ck) ks.length xk) (tK : ExsAt w K ks xk) :
    Calls Tryz.prog 64 #[.agg #[.int .i64 k, .string (tx nm), .bool f, .int .u64 u, .slice ap ps.length cp, .slice ak ks.length ck, .slice ab bl.length cb, .slice aa al.length ca]] w fun e w' => e = .returned (.string (tx (joinL [32] (headL ks (ks.map atomT))))) ∧ Below w.heap.size w w' := by
  have hx := (Below.refl w.heap.size w).alloc Nr (.cells #[.int .i64 k, .string (tx nm), .bool f, .int .u64 u, .slice ap ps.length cp, .slice ak ks.length ck, .slice ab bl.length cb, .slice aa al.length ca] 48)
  have HX := Hd (Ai hx (BoxW.alloc w #[.int .i64 k, .string (tx nm), .bool f, .int .u64 u, .slice ap ps.length cp, .slice ak ks.length ck, .slice ab bl.length cb, .slice aa al.length ca] 48))
  have HA := Hd (shatoms_any ks hT hn K xk _ k nm f u ap ps.length cp ak ck ab bl.length cb aa al.length ca (hp.below hx) (hK.blw hx) (tK.blw hx))
  obtain ⟨k1, nm1, f1, u1, ap1, np1, cp1, ak1, nk1, ck1, ab1, nb1, cb1, aa1, na1, ca1, hE, hc⟩ := tK.cells 0 h2
  obtain ⟨g1, o1, ea1, m1, m2, -, ht1⟩ := hK.at h2
  subst ea1
  rw [Nat.zero_mul] at hc
  obtain ⟨x, rest, hks⟩ : ∃ x rest, ks = x :: rest := by cases ks with
    | nil => simp at h2
    | cons a r => exact ⟨_, _, rfl⟩
  have hx0 : ks[0] = x := by subst hks; rfl
  rw [hx0] at hE
  obtain ⟨ps1, ks1, bl1, al1, xk1, xb1, xa1, hxx, -, hnk, -⟩ := hE.opened
  have hba : bareE x = ((k1 == 2 || k1 == 5) && nk1 == 0) := by rw [hxx, plain_of, hnk]
  have hhd : headL ks (ks.map atomT) = (if bareE x then encL (atomT x) else atomT x) :: rest.map atomT := by rw [hks]; rfl
  have hln : ks.length = rest.length + 1 := by rw [hks]; rfl
  have hmp : ks.map atomT = atomT x :: rest.map atomT := by rw [hks]; rfl
  have hax : (atomT x).length ≤ 20000000000 := by
    rw [hhd] at hl
    unfold joinL at hl
    rw [List.length_append] at hl
    by_cases g : bareE x = true
    · rw [if_pos g] at hl; unfold encL at hl; simp only [List.length_cons, List.length_append] at hl; omega
    · rw [if_neg g] at hl; omega
  have HN := Hd (fun W => enc_any (atomT x) (by omega) W)
  rw [hhd] at hl ⊢
  rw [hba] at hl ⊢
  have HJ := Hd (fun (y : List UInt8) (hy : (joinL [32] (y :: rest.map atomT)).length ≤ 20000000000) (V : World) (a : Option Addr) (c : Nat) (h : RowAt V (fun _ => True) 9 1 (.slice a ks.length c) ks.length (namesV (y :: rest.map atomT))) => join_any [32] (y :: rest.map atomT) (by simp only [List.length_cons, List.length_map]; omega) a c (fun _ => True) V (by simp only [List.length_cons, List.length_map]; rw [← hln]; exact h) (by omega))
  simp only [List.length_cons, List.length_map] at HJ
  rw [← hln] at HJ
  rw [hmp] at HA
  simp only [List.length_cons, List.length_map] at HA
  rw [← hln] at HA
  have H2 := Hd h2
  have gz : (0 : Int) < (ks.length : Int) := by omega
  have HC := Hd (fun (V : World) (hb : Below w.heap.size w V) i v h => later' hb (ht1 i v (by have := hc i v h; rwa [Nat.zero_add] at this)))
  clear hx0 hE hxx hc ht1 hK tK hhd hmp hba hT hp hnk hln hax h2 hks
  generalize rest.map atomT = ot at *
  generalize atomT x = ax at *
  generalize ks.length = L at *
  generalize hR : joinL [32] ((if ((k1 == 2 || k1 == 5) && nk1 == 0) = true then encL ax else ax) :: ot) = R at *
  have hmf := func_made
  clear hx 
  go_enter Tryz.func64, Tryz.ntmps64
  go_wp2_with fail
  refine HA.out.mono ?_
  rintro e w2 ⟨⟨v2, rfl, ho⟩, hb⟩
  obtain ⟨ga, ca2, rfl, hlo, hlt, hca, hc0, hf0, hset⟩ := own_first (show w2.ownsRow _ _ 1 v2 L (.string (tx ax) :: namesV ot) from ho)
  have HB := Hd (Ai (onB' HX.out.1 hb) (Ai (HX.out.2.below hb) (Ai hlo (Ai hset (Ai ho hlt)))))
  have hlo2 : w.heap.size < ga := by have := HX.out.2.lt; omega
  clear hb HA HX hset ho
  have d0 : w2.cell? ⟨w.heap.size, 0, none⟩ = some (.int .i64 k) := HB.out.2.1.1 0 _ rfl
  have d1 : w2.cell? ⟨w.heap.size, 1, none⟩ = some (.string (tx nm)) := HB.out.2.1.1 1 _ rfl
  have d2 : w2.cell? ⟨w.heap.size, 2, none⟩ = some (.bool f) := HB.out.2.1.1 2 _ rfl
  have d3 : w2.cell? ⟨w.heap.size, 3, none⟩ = some (.int .u64 u) := HB.out.2.1.1 3 _ rfl
  have d4 : w2.cell? ⟨w.heap.size, 4, none⟩ = some (.slice ap ps.length cp) := HB.out.2.1.1 4 _ rfl
  have d5 : w2.cell? ⟨w.heap.size, 5, none⟩ = some (.slice (some ⟨g1, o1, none⟩) L ck) := HB.out.2.1.1 5 _ rfl
  have d6 : w2.cell? ⟨w.heap.size, 6, none⟩ = some (.slice ab bl.length cb) := HB.out.2.1.1 6 _ rfl
  have d7 : w2.cell? ⟨w.heap.size, 7, none⟩ = some (.slice aa al.length ca) := HB.out.2.1.1 7 _ rfl
  have p0 : w2.cell? ⟨g1, o1, none⟩ = some (.int .i64 k1) := HC.out _ HB.out.1 0 _ rfl
  have p1 : w2.cell? ⟨g1, o1 + 1, none⟩ = some (.string (tx nm1)) := HC.out _ HB.out.1 1 _ rfl
  have p2 : w2.cell? ⟨g1, o1 + 2, none⟩ = some (.bool f1) := HC.out _ HB.out.1 2 _ rfl
  have p3 : w2.cell? ⟨g1, o1 + 3, none⟩ = some (.int .u64 u1) := HC.out _ HB.out.1 3 _ rfl
  have p4 : w2.cell? ⟨g1, o1 + 4, none⟩ = some (.slice ap1 np1 cp1) := HC.out _ HB.out.1 4 _ rfl
  have p5 : w2.cell? ⟨g1, o1 + 5, none⟩ = some (.slice ak1 nk1 ck1) := HC.out _ HB.out.1 5 _ rfl
  have p6 : w2.cell? ⟨g1, o1 + 6, none⟩ = some (.slice ab1 nb1 cb1) := HC.out _ HB.out.1 6 _ rfl
  have p7 : w2.cell? ⟨g1, o1 + 7, none⟩ = some (.slice aa1 na1 ca1) := HC.out _ HB.out.1 7 _ rfl
  have HI := Hd (isBare_any k1 nm1 f1 u1 ap1 np1 cp1 ak1 nk1 ck1 ab1 nb1 cb1 aa1 na1 ca1 w2)
  clear HC
  go_wp2_with fail
  refine HI.out.mono ?_
  rintro e w3 ⟨rfl, hb⟩
  have HB3 := Hd (Ai (onB' HB.out.1 hb) (Ai (own_below HB.out.2.2.2.2.1 hb) hb.size))
  have c3 : w3.cell? ⟨ga, 0, none⟩ = some (.string (tx ax)) := later' hb hc0
  clear hb HI
  generalize ((k1 == 2 || k1 == 5) && nk1 == 0) = bq at *
  cases bq with
  | false =>
    have hR2 : joinL [32] (ax :: ot) = R := hR
    subst hR2
    clear hR
    have hrow := row_own HB3.out.2.1 Br
    have HJw := Hd (HJ.out ax hl w3 _ _ hrow)
    clear HJ hl hrow
    go_wp2_with fail
    refine HJw.out.mono ?_
    rintro e w4 ⟨rfl, hb⟩
    have HB4 := Hd (onB' HB3.out.1 hb)
    clear hb HJw
    go_wp2_with fail
    go_ret
    exact ⟨rfl, HB4.out⟩
  | true =>
    have hR2 : joinL [32] (encL ax :: ot) = R := hR
    subst hR2
    clear hR
    have HNw := Hd (HN.out w3)
    clear HN
    go_wp2_with fail
    refine HNw.out.mono ?_
    rintro e w4 ⟨rfl, hb⟩
    have ho4 := own_below HB3.out.2.1 hb
    obtain ⟨ga', ca3, e4, -, hlt4, -, hc4, hf4, hset4⟩ := own_first (show w4.ownsRow _ _ 1 _ L (.string (tx ax) :: namesV ot) from ho4)
    cases e4
    have HB4 := Hd (Ai (onB' HB3.out.1 hb) (Ai (hset4 (.string (tx (encL ax)))) hlo2))
    have HJw := Hd (HJ.out (encL ax) hl _ _ _ HB4.out.2.1)
    clear hb HNw ho4 hset4 HJ hl
    go_wp2_with fail
    refine HJw.out.mono ?_
    rintro e w5 ⟨rfl, hb⟩
    have HB5 := Hd (onB' (HB4.out.1.setCell (by have := HB4.out.2.2; simp; omega) _) hb)
    clear hb HJw
    go_wp2_with fail
    go_ret
    exact ⟨rfl, HB5.out⟩
end Go.Proofs.YthehgcmhcioffaaGreatDoor
