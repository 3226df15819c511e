import Derived.Test.YtdjcdecbmeickaaDoorMg6
namespace Go.Proofs.YtdjcdecbmeickaaDoor
set_option maxHeartbeats 64000000
set_option maxRecDepth 100000
open Go.RowKit Go.Lib
theorem one_row {W : World} {B : Nat} {k : Int} {nm : Nm} {f : Bool} {u : Int} {ap : Option Addr} {np cp : Nat} {ak : Option Addr} {nk ck : Nat} {ab : Option Addr} {nb cb : Nat} {aa : Option Addr} {na ca : Nat} (h : W.heap[B]? = some (.cells #[.int .i64 k, .string (tx nm), .bool f, .int .u64 u, .slice ap np cp, .slice ak nk ck, .slice ab nb cb, .slice aa na ca] 46 (0, 0))) : RowAt W (fun _ => True) 46 8 (.slice (some ⟨B, 0, none⟩) 1 1) 1 [.int .i64 k, .string (tx nm), .bool f, .int .u64 u, .slice ap np cp, .slice ak nk ck, .slice ab nb cb, .slice aa na ca] := by
  refine ⟨rfl, Or.inr ⟨B, 0, 1, _, rfl, trivial, h, Nat.le_refl _, by decide, fun j v hj => ?_⟩⟩
  rw [Nat.zero_add, cell_of_row W B j _ _ (0, 0) h]
  simpa using hj
theorem name_row {W : World} {B : Nat} {x : Nm} (h : W.heap[B]? = some (.cells #[.string (tx x)] 9 (0, 0))) : RowAt W (fun _ => True) 9 1 (.slice (some ⟨B, 0, none⟩) 1 1) 1 (namesV [x]) := by
  refine ⟨rfl, Or.inr ⟨B, 0, 1, _, rfl, trivial, h, Nat.le_refl _, by decide, fun j v hj => ?_⟩⟩
  rw [Nat.zero_add, cell_of_row W B j _ _ (0, 0) h]
  simpa [namesV] using hj
theorem bodies_one (n : Nat) (hP : PlcC n) (bc nc : Nat) (cs : List Nm) (bs ns : Nat) (sc l : List Nm) (x : Ex) (hl : Nms l) (hx : SizeOf.sizeOf x ≤ n ∧ wfE x) (hn : ns + l.length + wtE x ≤ 100000) (a1 : Option Addr) (c1 : Nat) (k : Int) (nm : Nm) (f : Bool) (u : Int) (ap : Option Addr) (np cp : Nat) (ak : Option Addr) (nk ck : Nat) (ab : Option Addr) (nb cb : Nat) (aa : Option Addr) (na ca : Nat) (K1 K3 : Nat → Prop) (V : World) (B : Nat) (hB : V.heap.size = B) (hc : NSet V bc nc cs) (hs : NSet V bs ns sc) (hr : RowAt V K1 9 1 (.slice a1 l.length c1) l.length (namesV l)) (ht : ExAt V K3 x [.int .i64 k, .string (tx nm), .bool f, .int .u64 u, .slice ap np cp, .slice ak nk ck, .slice ab nb cb, .slice aa na ca]) :
    Calls Tryd.prog 75 #[.agg #[.map (some bc), .map (some bs)], .slice a1 l.length c1, .slice (some ⟨B, 0, none⟩) 1 1] (V.alloc (.cells #[.int .i64 k, .string (tx nm), .bool f, .int .u64 u, .slice ap np cp, .slice ak nk ck, .slice ab nb cb, .slice aa na ca] 46)) fun e w' => e = .returned (vErr ((twF l).or (scE cs (sc ++ l) x))) ∧ Below V.heap.size V w' := by
  subst hB
  have hb := (Below.refl V.heap.size V).alloc Nr (.cells #[.int .i64 k, .string (tx nm), .bool f, .int .u64 u, .slice ap np cp, .slice ak nk ck, .slice ab nb cb, .slice aa na ca] 46)
  have h := bodies_any n hP bc nc cs bs ns sc l [x] hl (fun y hy => by rw [List.mem_singleton.1 hy]; exact hx) (by simp only [sumN]; omega) a1 c1 (some ⟨V.heap.size, 0, none⟩) 1 (fun g => g < V.heap.size) (fun _ => True) K3 [.int .i64 k, .string (tx nm), .bool f, .int .u64 u, .slice ap np cp, .slice ak nk ck, .slice ab nb cb, .slice aa na ca] (V.alloc (.cells #[.int .i64 k, .string (tx nm), .bool f, .int .u64 u, .slice ap np cp, .slice ak nk ck, .slice ab nb cb, .slice aa na ca] 46)) (hc.later hb) (hs.later hb) (hr.low hb) (one_row (heap_alloc_new _ _)) (by
    have h := ExsAt.cons x [] _ [] (ht.move fun g hk lt => ⟨hk, hb.block g lt⟩) .nil
    rwa [List.append_nil] at h)
  refine h.mono fun e w' hh => ⟨?_, onB' hb hh.2⟩
  rw [hh.1]
  unfold scEs
  have e0 : scEs cs (sc ++ l) [] = none := by unfold scEs; rfl
  rw [e0, or_nil]
theorem pbind_any (n : Nat) (hP : PlcC n) (bc nc : Nat) (cs : List Nm) (bs ns : Nat) (sc : List Nm) (bd : Bnd) (hz : SizeOf.sizeOf bd.2.2 ≤ n) (hw : Nms bd.2.1 ∧ wfE bd.2.2) (hn : ns + nB bd ≤ 100000) (aq : Option Addr) (cq : Nat) (k : Int) (nm : Nm) (f : Bool) (u : Int) (ap : Option Addr) (np cp : Nat) (ak : Option Addr) (nk ck : Nat) (ab : Option Addr) (nb cb : Nat) (aa : Option Addr) (na ca : Nat) (K1 K3 : Nat → Prop) (w : World) (hc : NSet w bc nc cs) (hs : NSet w bs ns sc) (hr : RowAt w K1 9 1 (.slice aq bd.2.1.length cq) bd.2.1.length (namesV bd.2.1)) (ht : ExAt w K3 bd.2.2 [.int .i64 k, .string (tx nm), .bool f, .int .u64 u, .slice ap np cp, .slice ak nk ck, .slice ab nb cb, .slice aa na ca]) :
    Calls Tryd.prog 45 #[.agg #[.map (some bc), .map (some bs)], .agg #[.string (tx bd.1), .slice aq bd.2.1.length cq, .int .i64 k, .string (tx nm), .bool f, .int .u64 u, .slice ap np cp, .slice ak nk ck, .slice ab nb cb, .slice aa na ca]] w fun e w' => e = .returned (vErr ((twF bd.2.1).or (scE cs (sc ++ bd.2.1) bd.2.2))) ∧ Below w.heap.size w w' := by
  have hx1 := (Below.refl w.heap.size w).alloc Nr (.cells #[.map (some bc), .map (some bs)] 113)
  have hx := hx1.alloc hx1.size (.cells #[.string (tx bd.1), .slice aq bd.2.1.length cq, .int .i64 k, .string (tx nm), .bool f, .int .u64 u, .slice ap np cp, .slice ak nk ck, .slice ab nb cb, .slice aa na ca] 48)
  have HO := Hd (bodies_one n hP bc nc cs bs ns sc bd.2.1 bd.2.2 hw.1 ⟨hz, hw.2⟩ (by unfold nB at hn; omega) aq cq k nm f u ap np cp ak nk ck ab nb cb aa na ca (fun g => g < w.heap.size) K3 ((w.alloc (.cells #[.map (some bc), .map (some bs)] 113)).alloc (.cells #[.string (tx bd.1), .slice aq bd.2.1.length cq, .int .i64 k, .string (tx nm), .bool f, .int .u64 u, .slice ap np cp, .slice ak nk ck, .slice ab nb cb, .slice aa na ca] 48)) (w.heap.size + 1 + 1) (by simp) (hc.later hx) (hs.later hx) (hr.low hx) (ht.move fun g hk lt => ⟨hk, hx.block g lt⟩))
  have HX := Hd hx
  clear hc hs hr ht hx hx1
  go_enter Tryd.func45, Tryd.ntmps45
  go_wp2_with fail
  refine HO.out.mono ?_
  rintro e w2 ⟨rfl, hb2⟩
  have HB := Hd (onB' HX.out hb2)
  clear hb2 HO
  go_wp2_with fail
  go_ret
  exact ⟨rfl, HB.out⟩
theorem palt_any (n : Nat) (hP : PlcC n) (bc nc : Nat) (cs : List Nm) (bs ns : Nat) (sc : List Nm) (al : Alt) (hz : SizeOf.sizeOf al.2.2.2.2.2 ≤ n) (hw : wA al) (hn : ns + nA al ≤ 100000) (aq : Option Addr) (cq : Nat) (k : Int) (nm : Nm) (f : Bool) (u : Int) (ap : Option Addr) (np cp : Nat) (ak : Option Addr) (nk ck : Nat) (ab : Option Addr) (nb cb : Nat) (aa : Option Addr) (na ca : Nat) (K1 K3 : Nat → Prop) (w : World) (hc : NSet w bc nc cs) (hs : NSet w bs ns sc) (hr : RowAt w K1 9 1 (.slice aq al.2.2.2.2.1.length cq) al.2.2.2.2.1.length (namesV al.2.2.2.2.1)) (ht : ExAt w K3 al.2.2.2.2.2 [.int .i64 k, .string (tx nm), .bool f, .int .u64 u, .slice ap np cp, .slice ak nk ck, .slice ab nb cb, .slice aa na ca]) :
    Calls Tryd.prog 101 #[.agg #[.map (some bc), .map (some bs)], .agg #[.int .i64 al.1, .string (tx al.2.1), .bool al.2.2.1, .int .u64 al.2.2.2.1, .slice aq al.2.2.2.2.1.length cq, .int .i64 k, .string (tx nm), .bool f, .int .u64 u, .slice ap np cp, .slice ak nk ck, .slice ab nb cb, .slice aa na ca]] w fun e w' => e = .returned (vErr (scA cs sc al)) ∧ Below w.heap.size w w' := by
  have hx1 := (Below.refl w.heap.size w).alloc Nr (.cells #[.map (some bc), .map (some bs)] 113)
  have hx := hx1.alloc hx1.size (.cells #[.int .i64 al.1, .string (tx al.2.1), .bool al.2.2.1, .int .u64 al.2.2.2.1, .slice aq al.2.2.2.2.1.length cq, .int .i64 k, .string (tx nm), .bool f, .int .u64 u, .slice ap np cp, .slice ak nk ck, .slice ab nb cb, .slice aa na ca] 52)
  have hB1 := (BoxW.alloc w #[.map (some bc), .map (some bs)] 113).below (Br.alloc Nr (.cells #[.int .i64 al.1, .string (tx al.2.1), .bool al.2.2.1, .int .u64 al.2.2.2.1, .slice aq al.2.2.2.2.1.length cq, .int .i64 k, .string (tx nm), .bool f, .int .u64 u, .slice ap np cp, .slice ak nk ck, .slice ab nb cb, .slice aa na ca] 52))
  have hB2 := BoxW.alloc (w.alloc (.cells #[.map (some bc), .map (some bs)] 113)) #[.int .i64 al.1, .string (tx al.2.1), .bool al.2.2.1, .int .u64 al.2.2.2.1, .slice aq al.2.2.2.2.1.length cq, .int .i64 k, .string (tx nm), .bool f, .int .u64 u, .slice ap np cp, .slice ak nk ck, .slice ab nb cb, .slice aa na ca] 52
  rw [show (w.alloc (.cells #[.map (some bc), .map (some bs)] 113)).heap.size = w.heap.size + 1 by simp] at hB2
  have hz2 : ((w.alloc (.cells #[.map (some bc), .map (some bs)] 113)).alloc (.cells #[.int .i64 al.1, .string (tx al.2.1), .bool al.2.2.1, .int .u64 al.2.2.2.1, .slice aq al.2.2.2.2.1.length cq, .int .i64 k, .string (tx nm), .bool f, .int .u64 u, .slice ap np cp, .slice ak nk ck, .slice ab nb cb, .slice aa na ca] 52)).heap.size = w.heap.size + 1 + 1 := by simp
  obtain ⟨hw1, ⟨hw2, -⟩, hw3⟩ := hw
  have hn' : ns + (1 + al.2.2.2.2.1.length + wtE al.2.2.2.2.2) ≤ 100000 := hn
  by_cases g0 : al.1 = 0
  · have hsa : scA cs sc al = (hasF cs al.2.1).or ((twF al.2.2.2.2.1).or (scE cs (sc ++ al.2.2.2.2.1) al.2.2.2.2.2)) := if_pos g0
    rw [hsa, g0]
    rw [g0] at hx hB1 hB2 hz2
    have HF := Hd (nfault_any bc nc cs al.2.1 (hw1 (Or.inl g0)).2 ((w.alloc (.cells #[.map (some bc), .map (some bs)] 113)).alloc (.cells #[.int .i64 0, .string (tx al.2.1), .bool al.2.2.1, .int .u64 al.2.2.2.1, .slice aq al.2.2.2.2.1.length cq, .int .i64 k, .string (tx nm), .bool f, .int .u64 u, .slice ap np cp, .slice ak nk ck, .slice ab nb cb, .slice aa na ca] 52)) (hc.later hx))
    have HX := Hd (Ai hx (Ai hB1 (Ai hB2 hz2)))
    have HO := Hd (Ai hc (Ai hs (Ai hr ht)))
    clear hc hs hr ht hx hx1 hB1 hB2 hz2 hsa
    go_enter Tryd.func101, Tryd.ntmps101
    go_wp2_with fail
    refine HF.out.mono ?_
    rintro e w2 ⟨rfl, hb2⟩
    have HB := Hd (Ai (onB' HX.out.1 hb2) (Ai (HX.out.2.1.below hb2) (HX.out.2.2.1.below hb2)))
    clear hb2 HF HX
    cases hfo : hasF cs al.2.1 with
    | some fo =>
      obtain ⟨er, nn⟩ := fo
      have HT := Hd hfo
      unfold vErr
      clear hfo
      go_wp2_with fail
      go_ret
      exact ⟨by rw [HT.out]; rfl, HB.out.1⟩
    | none =>
      have HT := Hd hfo
      unfold vErr
      clear hfo
      have r0 : w2.cell? ⟨w.heap.size, 0, none⟩ = some (.map (some bc)) := HB.out.2.1.1 0 _ rfl
      have r1 : w2.cell? ⟨w.heap.size, 1, none⟩ = some (.map (some bs)) := HB.out.2.1.1 1 _ rfl
      have q0 : w2.cell? ⟨w.heap.size + 1, 0, none⟩ = some (.int .i64 0) := HB.out.2.2.1 0 _ rfl
      have q1 : w2.cell? ⟨w.heap.size + 1, 1, none⟩ = some (.string (tx al.2.1)) := HB.out.2.2.1 1 _ rfl
      have q2 : w2.cell? ⟨w.heap.size + 1, 2, none⟩ = some (.bool al.2.2.1) := HB.out.2.2.1 2 _ rfl
      have q3 : w2.cell? ⟨w.heap.size + 1, 3, none⟩ = some (.int .u64 al.2.2.2.1) := HB.out.2.2.1 3 _ rfl
      have q4 : w2.cell? ⟨w.heap.size + 1, 4, none⟩ = some (.slice aq al.2.2.2.2.1.length cq) := HB.out.2.2.1 4 _ rfl
      have q5 : w2.cell? ⟨w.heap.size + 1, 5, none⟩ = some (.int .i64 k) := HB.out.2.2.1 5 _ rfl
      have q6 : w2.cell? ⟨w.heap.size + 1, 6, none⟩ = some (.string (tx nm)) := HB.out.2.2.1 6 _ rfl
      have q7 : w2.cell? ⟨w.heap.size + 1, 7, none⟩ = some (.bool f) := HB.out.2.2.1 7 _ rfl
      have q8 : w2.cell? ⟨w.heap.size + 1, 8, none⟩ = some (.int .u64 u) := HB.out.2.2.1 8 _ rfl
      have q9 : w2.cell? ⟨w.heap.size + 1, 9, none⟩ = some (.slice ap np cp) := HB.out.2.2.1 9 _ rfl
      have q10 : w2.cell? ⟨w.heap.size + 1, 10, none⟩ = some (.slice ak nk ck) := HB.out.2.2.1 10 _ rfl
      have q11 : w2.cell? ⟨w.heap.size + 1, 11, none⟩ = some (.slice ab nb cb) := HB.out.2.2.1 11 _ rfl
      have q12 : w2.cell? ⟨w.heap.size + 1, 12, none⟩ = some (.slice aa na ca) := HB.out.2.2.1 12 _ rfl
      have HO2 := Hd (bodies_one n hP bc nc cs bs ns sc al.2.2.2.2.1 al.2.2.2.2.2 hw2 ⟨hz, hw3⟩ (by omega) aq cq k nm f u ap np cp ak nk ck ab nb cb aa na ca (fun g => g < w.heap.size) K3 w2 w2.heap.size rfl (HO.out.1.later HB.out.1) (HO.out.2.1.later HB.out.1) (HO.out.2.2.1.low HB.out.1) (HO.out.2.2.2.move fun g hk lt => ⟨hk, HB.out.1.block g lt⟩))
      go_wp2_with fail
      refine HO2.out.mono ?_
      rintro e w3 ⟨rfl, hb3⟩
      have HB3 := Hd (onB' HB.out.1 hb3)
      clear hb3 HO2
      go_wp2_with fail
      go_ret
      exact ⟨by rw [HT.out]; rfl, HB3.out⟩
  · by_cases g2 : al.1 = 2
    · have hsa : scA cs sc al = scE cs (sc ++ [al.2.1]) al.2.2.2.2.2 := (if_neg g0).trans (if_pos g2)
      rw [hsa, g2]
      rw [g2] at hx hB1 hB2 hz2
      have hy := hx.alloc hx.size (.cells #[.string (tx al.2.1)] 9)
      have hrow : RowAt ((((w.alloc (.cells #[.map (some bc), .map (some bs)] 113)).alloc (.cells #[.int .i64 2, .string (tx al.2.1), .bool al.2.2.1, .int .u64 al.2.2.2.1, .slice aq al.2.2.2.2.1.length cq, .int .i64 k, .string (tx nm), .bool f, .int .u64 u, .slice ap np cp, .slice ak nk ck, .slice ab nb cb, .slice aa na ca] 52))).alloc (.cells #[.string (tx al.2.1)] 9)) (fun _ => True) 9 1 (.slice (some ⟨w.heap.size + 1 + 1, 0, none⟩) 1 1) 1 (namesV [al.2.1]) := by
        have h := heap_alloc_new ((w.alloc (.cells #[.map (some bc), .map (some bs)] 113)).alloc (.cells #[.int .i64 2, .string (tx al.2.1), .bool al.2.2.1, .int .u64 al.2.2.2.1, .slice aq al.2.2.2.2.1.length cq, .int .i64 k, .string (tx nm), .bool f, .int .u64 u, .slice ap np cp, .slice ak nk ck, .slice ab nb cb, .slice aa na ca] 52)) (.cells #[.string (tx al.2.1)] 9)
        rw [hz2] at h
        exact name_row h
      have HO := Hd (bodies_one n hP bc nc cs bs ns sc [al.2.1] al.2.2.2.2.2 (fun y hy => by rw [List.mem_singleton.1 hy]; exact hw1 (Or.inr g2)) ⟨hz, hw3⟩ (by simp only [List.length_cons, List.length_nil]; omega) (some ⟨w.heap.size + 1 + 1, 0, none⟩) 1 k nm f u ap np cp ak nk ck ab nb cb aa na ca (fun _ => True) K3 ((((w.alloc (.cells #[.map (some bc), .map (some bs)] 113)).alloc (.cells #[.int .i64 2, .string (tx al.2.1), .bool al.2.2.1, .int .u64 al.2.2.2.1, .slice aq al.2.2.2.2.1.length cq, .int .i64 k, .string (tx nm), .bool f, .int .u64 u, .slice ap np cp, .slice ak nk ck, .slice ab nb cb, .slice aa na ca] 52))).alloc (.cells #[.string (tx al.2.1)] 9)) (w.heap.size + 1 + 1 + 1) (by simp) (hc.later hy) (hs.later hy) hrow (ht.move fun g hk lt => ⟨hk, hy.block g lt⟩))
      have HX := Hd hy
      clear hc hs hr ht hx hx1 hB1 hB2 hz2 hsa hrow hy
      go_enter Tryd.func101, Tryd.ntmps101
      go_wp2_with fail
      refine HO.out.mono ?_
      rintro e w3 ⟨rfl, hb3⟩
      have HB3 := Hd (onB' HX.out hb3)
      clear hb3 HO
      go_wp2_with fail
      go_ret
      exact ⟨rfl, HB3.out⟩
    · have hsa : scA cs sc al = scE cs sc al.2.2.2.2.2 := (if_neg g0).trans (if_neg g2)
      rw [hsa]
      have f0 : (al.1 == 0) = false := by simpa using g0
      have f2 : (al.1 == 2) = false := by simpa using g2
      have HO := Hd (hP al.2.2.2.2.2 K3 ((w.alloc (.cells #[.map (some bc), .map (some bs)] 113)).alloc (.cells #[.int .i64 al.1, .string (tx al.2.1), .bool al.2.2.1, .int .u64 al.2.2.2.1, .slice aq al.2.2.2.2.1.length cq, .int .i64 k, .string (tx nm), .bool f, .int .u64 u, .slice ap np cp, .slice ak nk ck, .slice ab nb cb, .slice aa na ca] 52)) bc nc cs bs ns sc k nm f u ap np cp ak nk ck ab nb cb aa na ca hz hw3 (by omega) (hc.later hx) (hs.later hx) (ht.move fun g hk lt => ⟨hk, hx.block g lt⟩))
      have HX := Hd hx
      clear hc hs hr ht hx hx1 hB1 hB2 hz2 hsa
      go_enter Tryd.func101, Tryd.ntmps101
      go_wp2_with fail
      refine HO.out.mono ?_
      rintro e w3 ⟨rfl, hb3⟩
      have HB3 := Hd (onB' HX.out hb3)
      clear hb3 HO
      go_wp2_with fail
      go_ret
      exact ⟨rfl, HB3.out⟩
theorem wfEs_mem : ∀ {l : List Ex}, wfEs l → ∀ b, b ∈ l → wfE b
  | e :: r, h, b, hb => by
    unfold wfEs at h
    rcases List.mem_cons.1 hb with rfl | hb
    · exact h.1
    · exact wfEs_mem h.2 b hb
theorem wfBs_mem : ∀ {l : List Bnd}, wfBs l → ∀ b, b ∈ l → wB b
  | (n, ps, e) :: r, h, b, hb => by
    unfold wfBs at h
    rcases List.mem_cons.1 hb with rfl | hb
    · exact h.1
    · exact wfBs_mem h.2 b hb
theorem wfAs_mem : ∀ {l : List Alt}, wfAs l → ∀ b, b ∈ l → wA b
  | (k, n, f, x, ns, e) :: r, h, b, hb => by
    unfold wfAs at h
    rcases List.mem_cons.1 hb with rfl | hb
    · exact h.1
    · exact wfAs_mem h.2 b hb
theorem ExAt.opened {W : World} {K : Nat → Prop} {x : Ex} {k : Int} {nm : Nm} {f : Bool} {u : Int} {ap : Option Addr} {np cp : Nat} {ak : Option Addr} {nk ck : Nat} {ab : Option Addr} {nb cb : Nat} {aa : Option Addr} {na ca : Nat} (h : ExAt W K x [.int .i64 k, .string (tx nm), .bool f, .int .u64 u, .slice ap np cp, .slice ak nk ck, .slice ab nb cb, .slice aa na ca]) : ∃ ps ks bl al xk xb xa, x = .mk k nm f u ps ks bl al ∧ np = ps.length ∧ nk = ks.length ∧ nb = bl.length ∧ na = al.length ∧
    RowAt W K 9 1 (.slice ap ps.length cp) ps.length (namesV ps) ∧ RowAt W K 46 8 (.slice ak ks.length ck) ks.length xk ∧ RowAt W K 48 10 (.slice ab bl.length cb) bl.length xb ∧ RowAt W K 52 13 (.slice aa al.length ca) al.length xa ∧ ExsAt W K ks xk ∧ BndsAt W K bl xb ∧ AltsAt W K al xa := by
  generalize hL : [Value.int .i64 k, .string (tx nm), .bool f, .int .u64 u, .slice ap np cp, .slice ak nk ck, .slice ab nb cb, .slice aa na ca] = L at h
  cases h with
  | mk k' n' f' x' ps ks bl al vp vk vb va xk xb xa hp hk hb ha tk tb ta =>
    obtain ⟨ap', cp', rfl⟩ := hp.sl
    obtain ⟨ak', ck', rfl⟩ := hk.sl
    obtain ⟨ab', cb', rfl⟩ := hb.sl
    obtain ⟨aa', ca', rfl⟩ := ha.sl
    simp only [List.cons.injEq, Value.int.injEq, Value.string.injEq, Value.bool.injEq, Value.slice.injEq, and_true, true_and] at hL
    obtain ⟨rfl, h2, rfl, rfl, ⟨rfl, rfl, rfl⟩, ⟨rfl, rfl, rfl⟩, ⟨rfl, rfl, rfl⟩, ⟨rfl, rfl, rfl⟩⟩ := hL
    obtain rfl := tx_inj h2
    exact ⟨ps, ks, bl, al, xk, xb, xa, rfl, rfl, rfl, rfl, rfl, hp, hk, hb, ha, tk, tb, ta⟩
structure NodeOk (n ns : Nat) (k : Int) (nm : Nm) (f : Bool) (u : Int) (ps : List Nm) (ks : List Ex) (bl : List Bnd) (al : List Alt) : Prop where
  sk : ∀ y, y ∈ ks → SizeOf.sizeOf y ≤ n
  sb : ∀ y, y ∈ bl → SizeOf.sizeOf y.2.2 ≤ n
  sa : ∀ y, y ∈ al → SizeOf.sizeOf y.2.2.2.2.2 ≤ n
  wk : ∀ y, y ∈ ks → wfE y
  wb : ∀ y, y ∈ bl → wB y
  wa : ∀ y, y ∈ al → wA y
  wp : Nms ps
  wn : k = 1 ∨ k = 2 ∨ k = 5 → NmOk nm
  wt : ns + ((if k = 1 then 1 else 0) + ps.length + sumN wtE ks + (bl.length + sumN nB bl) + sumN nA al) ≤ 100000
theorem NodeOk.of {n ns : Nat} {k : Int} {nm : Nm} {f : Bool} {u : Int} {ps : List Nm} {ks : List Ex} {bl : List Bnd} {al : List Alt} (hs : SizeOf.sizeOf (Ex.mk k nm f u ps ks bl al) ≤ n + 1) (hw : wfE (.mk k nm f u ps ks bl al)) (ht : ns + wtE (.mk k nm f u ps ks bl al) ≤ 100000) : NodeOk n ns k nm f u ps ks bl al := by
  unfold wfE at hw
  obtain ⟨-, -, w3, w4, w5, w6, w7, -, -⟩ := hw
  rw [wtE_mk, sumN_nB2] at ht
  simp only [Ex.mk.sizeOf_spec] at hs
  refine ⟨fun x hx => ?_, fun x hx => ?_, fun x hx => ?_, wfEs_mem w5, wfBs_mem w6, wfAs_mem w7, w4, w3, ht⟩
  · have := List.sizeOf_lt_of_mem hx
    omega
  · have := List.sizeOf_lt_of_mem hx
    obtain ⟨a, b, c⟩ := x
    simp only [Prod.mk.sizeOf_spec] at this ⊢
    omega
  · have := List.sizeOf_lt_of_mem hx
    obtain ⟨a, b, c, d, e, g⟩ := x
    simp only [Prod.mk.sizeOf_spec] at this ⊢
    omega
theorem func_made : ∀ (fn : Fn) (first cap : Array Value) (w : World), (Instr.makeFunc fn first cap).run Tryd.prog w = .ok (.func fn first cap) w := fun _ _ _ _ => rfl
theorem first_exprs (n : Nat) (hP : PlcC n) (bc nc : Nat) (cs : List Nm) (bs ns : Nat) (sc : List Nm) (ks : List Ex) (hs : ∀ y, y ∈ ks → SizeOf.sizeOf y ≤ n) (hw : ∀ y, y ∈ ks → wfE y) (hn : ns + sumN wtE ks ≤ 100000) (ak : Option Addr) (ck : Nat) (K : Nat → Prop) (xk : List Value) (W : World) (hc : NSet W bc nc cs) (hb : NSet W bs ns sc) (hr : RowAt W K 46 8 (.slice ak ks.length ck) ks.length xk) (ht : ExsAt W K ks xk) :
    Calls Tryd.prog 91 #[.slice ak ks.length ck, .func (.func 92) #[.agg #[.map (some bc), .map (some bs)]] #[]] W fun e w' => e = .returned (vErr (scEs cs sc ks)) ∧ Below W.heap.size W w' := by
  rw [scEs_first]
  exact first_expr 92 (enters_of Tryd.func92 (by kernel_rfl) rfl) bc bs (scE cs sc) ks ak ck K K xk W hr ht
    (fun j hj k nm f u ap np cp ak nk ck ab nb cb aa na ca V hV hE => hP ks[j] K V bc nc cs bs ns sc k nm f u ap np cp ak nk ck ab nb cb aa na ca (hs _ (List.getElem_mem hj)) (hw _ (List.getElem_mem hj)) (by have := sumN_mem wtE (List.getElem_mem hj); omega) (hc.later hV) (hb.later hV) hE)
theorem first_binds (n : Nat) (hP : PlcC n) (bc nc : Nat) (cs : List Nm) (bs ns : Nat) (sc : List Nm) (bl : List Bnd) (hs : ∀ y, y ∈ bl → SizeOf.sizeOf y.2.2 ≤ n) (hw : ∀ y, y ∈ bl → wB y) (hn : ns + sumN nB bl ≤ 100000) (ab : Option Addr) (cb : Nat) (K K2 : Nat → Prop) (xb : List Value) (W : World) (hc : NSet W bc nc cs) (hb : NSet W bs ns sc) (hr : RowAt W K 48 10 (.slice ab bl.length cb) bl.length xb) (ht : BndsAt W K2 bl xb) :
    Calls Tryd.prog 44 #[.slice ab bl.length cb, .func (.func 45) #[.agg #[.map (some bc), .map (some bs)]] #[]] W fun e w' => e = .returned (vErr (scBs cs sc bl)) ∧ Below W.heap.size W w' := by
  rw [scBs_first]
  exact first_bind 45 (enters_of Tryd.func45 (by kernel_rfl) rfl) bc bs _ bl ab cb K K2 xb W hr ht
    (fun j hj aq cq k nm f u ap np cp ak nk ck ab nb cb aa na ca V hV hQ hE => pbind_any n hP bc nc cs bs ns sc bl[j] (hs _ (List.getElem_mem hj)) (hw _ (List.getElem_mem hj)).2 (by have := sumN_mem nB (List.getElem_mem hj); omega) aq cq k nm f u ap np cp ak nk ck ab nb cb aa na ca K2 K2 V (hc.later hV) (hb.later hV) hQ hE)
theorem first_alts (n : Nat) (hP : PlcC n) (bc nc : Nat) (cs : List Nm) (bs ns : Nat) (sc : List Nm) (al : List Alt) (hs : ∀ y, y ∈ al → SizeOf.sizeOf y.2.2.2.2.2 ≤ n) (hw : ∀ y, y ∈ al → wA y) (hn : ns + sumN nA al ≤ 100000) (aa : Option Addr) (ca : Nat) (K K2 : Nat → Prop) (xa : List Value) (W : World) (hc : NSet W bc nc cs) (hb : NSet W bs ns sc) (hr : RowAt W K 52 13 (.slice aa al.length ca) al.length xa) (ht : AltsAt W K2 al xa) :
    Calls Tryd.prog 100 #[.slice aa al.length ca, .func (.func 101) #[.agg #[.map (some bc), .map (some bs)]] #[]] W fun e w' => e = .returned (vErr (scAs cs sc al)) ∧ Below W.heap.size W w' := by
  rw [scAs_first]
  exact first_alt 101 (enters_of Tryd.func101 (by kernel_rfl) rfl) bc bs _ al aa ca K K2 xa W hr ht
    (fun j hj aq cq k nm f u ap np cp ak nk ck ab nb cb aa na ca V hV hQ hE => palt_any n hP bc nc cs bs ns sc al[j] (hs _ (List.getElem_mem hj)) (hw _ (List.getElem_mem hj)) (by have := sumN_mem nA (List.getElem_mem hj); omega) aq cq k nm f u ap np cp ak nk ck ab nb cb aa na ca K2 K2 V (hc.later hV) (hb.later hV) hQ hE)
theorem pchoice_any (n : Nat) (hP : PlcC n) (bc nc : Nat) (cs : List Nm) (bs ns : Nat) (sc : List Nm) (k : Int) (nm : Nm) (f : Bool) (u : Int) (ps : List Nm) (ks : List Ex) (bl : List Bnd) (al : List Alt) (ap : Option Addr) (cp : Nat) (ak : Option Addr) (ck : Nat) (ab : Option Addr) (cb : Nat) (aa : Option Addr) (ca : Nat) (hN : NodeOk n ns k nm f u ps ks bl al) (K : Nat → Prop) (xk xa : List Value) (w : World) (hc : NSet w bc nc cs) (hs : NSet w bs ns sc) (hk : RowAt w K 46 8 (.slice ak ks.length ck) ks.length xk) (ha : RowAt w K 52 13 (.slice aa al.length ca) al.length xa) (tk : ExsAt w K ks xk) (ta : AltsAt w K al xa) :
    Calls Tryd.prog 99 #[.agg #[.map (some bc), .map (some bs)], .agg #[.int .i64 k, .string (tx nm), .bool f, .int .u64 u, .slice ap ps.length cp, .slice ak ks.length ck, .slice ab bl.length cb, .slice aa al.length ca]] w fun e w' => e = .returned (vErr ((scEs cs sc ks).or (scAs cs sc al))) ∧ Below w.heap.size w w' := by
  have hx1 := (Below.refl w.heap.size w).alloc Nr (.cells #[.map (some bc), .map (some bs)] 113)
  have hx := hx1.alloc hx1.size (.cells #[.int .i64 k, .string (tx nm), .bool f, .int .u64 u, .slice ap ps.length cp, .slice ak ks.length ck, .slice ab bl.length cb, .slice aa al.length ca] 46)
  have hB1 := (BoxW.alloc w #[.map (some bc), .map (some bs)] 113).below (Br.alloc Nr (.cells #[.int .i64 k, .string (tx nm), .bool f, .int .u64 u, .slice ap ps.length cp, .slice ak ks.length ck, .slice ab bl.length cb, .slice aa al.length ca] 46))
  have hB2 := BoxW.alloc (w.alloc (.cells #[.map (some bc), .map (some bs)] 113)) #[.int .i64 k, .string (tx nm), .bool f, .int .u64 u, .slice ap ps.length cp, .slice ak ks.length ck, .slice ab bl.length cb, .slice aa al.length ca] 46
  rw [show (w.alloc (.cells #[.map (some bc), .map (some bs)] 113)).heap.size = w.heap.size + 1 by simp] at hB2
  have hwt := hN.wt
  have HF := Hd (first_exprs n hP bc nc cs bs ns sc ks hN.sk hN.wk (by omega) ak ck K xk ((w.alloc (.cells #[.map (some bc), .map (some bs)] 113)).alloc (.cells #[.int .i64 k, .string (tx nm), .bool f, .int .u64 u, .slice ap ps.length cp, .slice ak ks.length ck, .slice ab bl.length cb, .slice aa al.length ca] 46)) (hc.later hx) (hs.later hx) (hk.move fun g hg lt => ⟨hg, hx.block g lt⟩) (tk.move fun g hg lt => ⟨hg, hx.block g lt⟩))
  have HX := Hd (Ai hx (Ai hB1 hB2))
  have HO := Hd (Ai hc (Ai hs (Ai ha ta)))
  have hmf := func_made
  clear hx hx1 hB1 hB2 hc hs hk ha tk ta
  go_enter Tryd.func99, Tryd.ntmps99
  go_wp2_with fail
  refine HF.out.mono ?_
  rintro e w2 ⟨rfl, hb2⟩
  have HB := Hd (Ai (onB' HX.out.1 hb2) (Ai (HX.out.2.1.below hb2) (HX.out.2.2.below hb2)))
  clear hb2 HF HX
  cases hfo : scEs cs sc ks with
  | some fo =>
    obtain ⟨er, nn⟩ := fo
    have HT := Hd hfo
    unfold vErr
    clear hfo
    go_wp2_with fail
    go_ret
    exact ⟨by rw [HT.out]; rfl, HB.out.1⟩
  | none =>
    have HT := Hd hfo
    unfold vErr
    clear hfo
    have r0 : w2.cell? ⟨w.heap.size, 0, none⟩ = some (.map (some bc)) := HB.out.2.1.1 0 _ rfl
    have r1 : w2.cell? ⟨w.heap.size, 1, none⟩ = some (.map (some bs)) := HB.out.2.1.1 1 _ rfl
    have q0 : w2.cell? ⟨w.heap.size + 1, 0, none⟩ = some (.int .i64 k) := HB.out.2.2.1 0 _ rfl
    have q1 : w2.cell? ⟨w.heap.size + 1, 1, none⟩ = some (.string (tx nm)) := HB.out.2.2.1 1 _ rfl
    have q2 : w2.cell? ⟨w.heap.size + 1, 2, none⟩ = some (.bool f) := HB.out.2.2.1 2 _ rfl
    have q3 : w2.cell? ⟨w.heap.size + 1, 3, none⟩ = some (.int .u64 u) := HB.out.2.2.1 3 _ rfl
    have q4 : w2.cell? ⟨w.heap.size + 1, 4, none⟩ = some (.slice ap ps.length cp) := HB.out.2.2.1 4 _ rfl
    have q5 : w2.cell? ⟨w.heap.size + 1, 5, none⟩ = some (.slice ak ks.length ck) := HB.out.2.2.1 5 _ rfl
    have q6 : w2.cell? ⟨w.heap.size + 1, 6, none⟩ = some (.slice ab bl.length cb) := HB.out.2.2.1 6 _ rfl
    have q7 : w2.cell? ⟨w.heap.size + 1, 7, none⟩ = some (.slice aa al.length ca) := HB.out.2.2.1 7 _ rfl
    have HF2 := Hd (first_alts n hP bc nc cs bs ns sc al hN.sa hN.wa (by omega) aa ca K K xa w2 (HO.out.1.later HB.out.1) (HO.out.2.1.later HB.out.1) (HO.out.2.2.1.move fun g hg lt => ⟨hg, HB.out.1.block g lt⟩) (HO.out.2.2.2.move fun g hg lt => ⟨hg, HB.out.1.block g lt⟩))
    go_wp2_with fail
    refine HF2.out.mono ?_
    rintro e w3 ⟨rfl, hb3⟩
    have HB3 := Hd (onB' HB.out.1 hb3)
    clear hb3 HF2
    go_wp2_with fail
    go_ret
    exact ⟨by rw [HT.out]; rfl, HB3.out⟩
def FoAr (o : Fo) : Prop := ∀ e n, o = some (e, n) → (e = 11 ∨ e = 12) ∧ n.length ≤ 100000
theorem FoAr.or {a b : Fo} (ha : FoAr a) (hb : FoAr b) : FoAr (a.or b) := by
  cases a with
  | none => simpa using hb
  | some x => intro e n h; exact ha e n (by simpa using h)
theorem oneF_ar {c : Bool} {e : Int} {n : Nm} (he : e = 11 ∨ e = 12) (hn : n.length ≤ 100000) : FoAr (oneF c e n) := by
  intro e' n' h
  unfold oneF at h
  split at h
  · cases h; exact ⟨he, hn⟩
  · cases h
theorem none_ar : FoAr none := fun _ _ h => by cases h
theorem firstF_ar {α : Type} {F : α → Fo} : ∀ {l : List α}, (∀ x, x ∈ l → FoAr (F x)) → FoAr (firstF F l)
  | [], _ => none_ar
  | x :: _, h => FoAr.or (h x (List.mem_cons_self ..)) (firstF_ar fun y hy => h y (List.mem_cons_of_mem _ hy))
theorem arH_ar (cs : List (Nm × Int)) (k : Int) (n : Nm) (ps : List Nm) (nk : Nat) (hn : k = 1 ∨ k = 2 ∨ k = 5 → NmOk n) (hp : ∀ x, x ∈ ps → NmOk x) : FoAr (arH cs k n ps nk) := by
  unfold arH
  split
  · rename_i g; exact oneF_ar (Or.inl rfl) (hn (Or.inr (Or.inl g))).2
  split
  · rename_i g; exact oneF_ar (Or.inl rfl) (hn (Or.inr (Or.inr g))).2
  split
  · exact oneF_ar (Or.inr rfl) (Nat.zero_le _)
  split
  · refine oneF_ar (Or.inr rfl) ?_
    cases ps with
    | nil => exact Nat.zero_le _
    | cons x r => exact (hp x (List.mem_cons_self ..)).2
  · exact none_ar
theorem arE_arn (cs : List (Nm × Int)) : ∀ (n : Nat) (e : Ex), SizeOf.sizeOf e ≤ n → wfE e → FoAr (arE cs e)
  | 0, .mk k n f u ps ks bl al, h, _ => by simp only [Ex.mk.sizeOf_spec] at h; omega
  | n + 1, .mk k nm f u ps ks bl al, h, hw => by
    rw [arE_mk]
    unfold wfE at hw
    obtain ⟨-, -, w3, w4, w5, w6, w7, -, -⟩ := hw
    simp only [Ex.mk.sizeOf_spec] at h
    refine (arH_ar cs k nm ps ks.length w3 w4).or (FoAr.or (firstF_ar fun x hx => ?_) (FoAr.or (firstF_ar fun x hx => ?_) (firstF_ar fun x hx => ?_)))
    · have := List.sizeOf_lt_of_mem hx
      have hb := wfBs_mem w6 x hx
      obtain ⟨a, b, c⟩ := x
      simp only [Prod.mk.sizeOf_spec] at this
      exact (oneF_ar (Or.inr rfl) hb.1.2).or (arE_arn cs n c (by omega) hb.2.2)
    · have := List.sizeOf_lt_of_mem hx
      exact arE_arn cs n x (by omega) (wfEs_mem w5 x hx)
    · have := List.sizeOf_lt_of_mem hx
      have hb := wfAs_mem w7 x hx
      obtain ⟨a, b, c, d, e, g⟩ := x
      simp only [Prod.mk.sizeOf_spec] at this
      refine FoAr.or ?_ (arE_arn cs n g (by omega) hb.2.2)
      show FoAr (if a = 0 then _ else none)
      split
      · rename_i g0; exact oneF_ar (Or.inl rfl) (hb.1 (Or.inl g0)).2
      · exact none_ar
theorem arB_ar (cs : List (Nm × Int)) (b : Bnd) (hb : wB b) : FoAr (arB cs b) := (oneF_ar (Or.inr rfl) hb.1.2).or (arE_arn cs _ _ Nr hb.2.2)
theorem mainF_ar (bs : List Bnd) : FoAr (mainF bs) := oneF_ar (Or.inl rfl) (by decide)
theorem askbind_any (ga gt gb gk gl ma ma2 mt mt2 : Nat) (cs : List (Nm × Int)) (n : Nat) (hP : AskC ga gt gb gk gl ma ma2 mt mt2 cs n) (bd : Bnd) (hz : SizeOf.sizeOf bd.2.2 ≤ n) (hw : wfE bd.2.2) (aq : Option Addr) (cq : Nat) (k : Int) (nm : Nm) (f : Bool) (u : Int) (ap : Option Addr) (np cp : Nat) (ak : Option Addr) (nk ck : Nat) (ab : Option Addr) (nb cb : Nat) (aa : Option Addr) (na ca : Nat) (K3 : Nat → Prop) (w : World) (hm : bd.2.1.length ≤ maxLen) (hA : AskAt w ga gt gb gk gl ma ma2 mt mt2 cs) (ht : ExAt w K3 bd.2.2 [.int .i64 k, .string (tx nm), .bool f, .int .u64 u, .slice ap np cp, .slice ak nk ck, .slice ab nb cb, .slice aa na ca]) :
    Calls Tryd.prog 79 #[.agg #[.string (tx bd.1), .slice aq bd.2.1.length cq, .int .i64 k, .string (tx nm), .bool f, .int .u64 u, .slice ap np cp, .slice ak nk ck, .slice ab nb cb, .slice aa na ca], .pointer (some ⟨gk, 0, none⟩)] w fun e w' => e = .returned (vF (arB cs bd)) ∧ Below w.heap.size w w' := by
  have hx1 := (Below.refl w.heap.size w).alloc Nr (.cells #[.string (tx bd.1), .slice aq bd.2.1.length cq, .int .i64 k, .string (tx nm), .bool f, .int .u64 u, .slice ap np cp, .slice ak nk ck, .slice ab nb cb, .slice aa na ca] 48)
  have hx := hx1.alloc hx1.size (.cells #[.int .i64 0, .string ⟨#[]⟩] 76)
  have hB2 := BoxW.alloc (w.alloc (.cells #[.string (tx bd.1), .slice aq bd.2.1.length cq, .int .i64 k, .string (tx nm), .bool f, .int .u64 u, .slice ap np cp, .slice ak nk ck, .slice ab nb cb, .slice aa na ca] 48)) #[.int .i64 0, .string ⟨#[]⟩] 76
  rw [show (w.alloc (.cells #[.string (tx bd.1), .slice aq bd.2.1.length cq, .int .i64 k, .string (tx nm), .bool f, .int .u64 u, .slice ap np cp, .slice ak nk ck, .slice ab nb cb, .slice aa na ca] 48)).heap.size = w.heap.size + 1 by simp] at hB2
  unfold maxLen at hm
  by_cases g : 24 < bd.2.1.length
  · have HE := Hd (show vF (arB cs bd) = .agg #[.int .i64 12, .string (tx bd.1)] by unfold arB oneF; rw [if_pos (decide_eq_true g)]; rfl)
    have hf := hx1.alloc hx1.size (.cells #[.int .i64 12, .string (tx bd.1)] 76)
    have hBf := BoxW.alloc (w.alloc (.cells #[.string (tx bd.1), .slice aq bd.2.1.length cq, .int .i64 k, .string (tx nm), .bool f, .int .u64 u, .slice ap np cp, .slice ak nk ck, .slice ab nb cb, .slice aa na ca] 48)) #[.int .i64 12, .string (tx bd.1)] 76
    rw [show (w.alloc (.cells #[.string (tx bd.1), .slice aq bd.2.1.length cq, .int .i64 k, .string (tx nm), .bool f, .int .u64 u, .slice ap np cp, .slice ak nk ck, .slice ab nb cb, .slice aa na ca] 48)).heap.size = w.heap.size + 1 by simp] at hBf
    have HX := Hd hf
    have v0 := hBf.1 0 _ rfl
    have v1 := hBf.1 1 _ rfl
    have g' : (24 : Int) < (bd.2.1.length : Int) := by omega
    clear hf hBf hx hx1 hB2 hA ht
    go_enter Tryd.func79, Tryd.ntmps79
    go_wp2_with fail
    exact bodyPost_ret (v := .agg #[.int .i64 12, .string (tx bd.1)]) (by simp [results, Tryd.results79, go_sem, v0, v1]) rfl ⟨by rw [HE.out], HX.out⟩
  · have HE := Hd (show arB cs bd = arE cs bd.2.2 by unfold arB oneF; rw [if_neg (by simpa using g)]; rfl)
    have g' : ¬ (24 : Int) < (bd.2.1.length : Int) := by omega
    have HK := Hd (fun (W : World) (hb : Below w.heap.size w W) => hP bd.2.2 K3 W k nm f u ap np cp ak nk ck ab nb cb aa na ca hz hw (hA.later hb) (ht.move fun g hk lt => ⟨hk, hb.block g lt⟩))
    have HX := Hd (Ai hx hB2)
    have y3 := later' hx hA.k
    have eg := enters_of Tryd.func81 (by kernel_rfl) rfl
    clear hx hx1 hB2 hA ht
    go_enter Tryd.func79, Tryd.ntmps79
    go_wp2_with fail
    refine (HK.out _ HX.out.1).mono ?_
    rintro e w2 ⟨rfl, hb2⟩
    have HB := Hd (Ai (onB' HX.out.1 hb2) (HX.out.2.below hb2))
    have r0 := HB.out.2.1 0 _ rfl
    have r1 := HB.out.2.1 1 _ rfl
    have t0 := HB.out.2.2 0
    have t1 := HB.out.2.2 1
    clear hb2 HK
    have HE2 := Hd (show vF (arB cs bd) = .agg #[.int .i64 (stN (arE cs bd.2.2)).1, .string (tx (stN (arE cs bd.2.2)).2)] by rw [HE.out]; rfl)
    unfold vF
    generalize (stN (arE cs bd.2.2)).1 = er at *
    generalize (stN (arE cs bd.2.2)).2 = nn at *
    go_wp2_with fail
    have v0 := (setTwo r0 r1 (.int .i64 er) (.string (tx nn))).1
    have v1 := (setTwo r0 r1 (.int .i64 er) (.string (tx nn))).2
    exact bodyPost_ret (v := .agg #[.int .i64 er, .string (tx nn)]) (by simp [results, Tryd.results79, go_sem, v0, v1]) rfl ⟨by rw [← HE2.out], below2 HB.out.1 (by omega) _ _⟩
theorem askalt_any (ga gt gb gk gl ma ma2 mt mt2 : Nat) (cs : List (Nm × Int)) (n : Nat) (hP : AskC ga gt gb gk gl ma ma2 mt mt2 cs n) (a1 : Int) (a2 : Nm) (a3 : Bool) (a4 : Int) (a5 : List Nm) (a6 : Ex) (hz : SizeOf.sizeOf a6 ≤ n) (hw : wA (a1, a2, a3, a4, a5, a6)) (aq : Option Addr) (cq : Nat) (k : Int) (nm : Nm) (f : Bool) (u : Int) (ap : Option Addr) (np cp : Nat) (ak : Option Addr) (nk ck : Nat) (ab : Option Addr) (nb cb : Nat) (aa : Option Addr) (na ca : Nat) (K3 : Nat → Prop) (w : World) (hA : AskAt w ga gt gb gk gl ma ma2 mt mt2 cs) (ht : ExAt w K3 a6 [.int .i64 k, .string (tx nm), .bool f, .int .u64 u, .slice ap np cp, .slice ak nk ck, .slice ab nb cb, .slice aa na ca]) :
    Calls Tryd.prog 80 #[.agg #[.int .i64 a1, .string (tx a2), .bool a3, .int .u64 a4, .slice aq a5.length cq, .int .i64 k, .string (tx nm), .bool f, .int .u64 u, .slice ap np cp, .slice ak nk ck, .slice ab nb cb, .slice aa na ca], .pointer (some ⟨ga, 0, none⟩), .pointer (some ⟨gk, 0, none⟩)] w fun e w' => e = .returned (vF (arA cs (a1, a2, a3, a4, a5, a6))) ∧ Below w.heap.size w w' := by
  have hx1 := (Below.refl w.heap.size w).alloc Nr (.cells #[.int .i64 a1, .string (tx a2), .bool a3, .int .u64 a4, .slice aq a5.length cq, .int .i64 k, .string (tx nm), .bool f, .int .u64 u, .slice ap np cp, .slice ak nk ck, .slice ab nb cb, .slice aa na ca] 52)
  have hx := hx1.alloc hx1.size (.cells #[.int .i64 0, .string ⟨#[]⟩] 76)
  have hB2 := BoxW.alloc (w.alloc (.cells #[.int .i64 a1, .string (tx a2), .bool a3, .int .u64 a4, .slice aq a5.length cq, .int .i64 k, .string (tx nm), .bool f, .int .u64 u, .slice ap np cp, .slice ak nk ck, .slice ab nb cb, .slice aa na ca] 52)) #[.int .i64 0, .string ⟨#[]⟩] 76
  rw [show (w.alloc (.cells #[.int .i64 a1, .string (tx a2), .bool a3, .int .u64 a4, .slice aq a5.length cq, .int .i64 k, .string (tx nm), .bool f, .int .u64 u, .slice ap np cp, .slice ak nk ck, .slice ab nb cb, .slice aa na ca] 52)).heap.size = w.heap.size + 1 by simp] at hB2
  have HK := Hd (fun (W : World) (hb : Below w.heap.size w W) => hP a6 K3 W k nm f u ap np cp ak nk ck ab nb cb aa na ca hz hw.2.2 (hA.later hb) (ht.move fun g hk lt => ⟨hk, hb.block g lt⟩))
  have y0 := later' hx hA.a
  have y3 := later' hx hA.k
  have eg := enters_of Tryd.func81 (by kernel_rfl) rfl
  by_cases g0 : a1 = 0
  · subst g0
    have g0 : (0 : Int) = 0 := rfl
    have hl := (hA.am.later hx).look a2 (hw.1 (Or.inl g0)).2
    by_cases g : ((a5.length : Int) ≠ lookA cs a2)
    · have HE := Hd (show vF (arA cs (0, a2, a3, a4, a5, a6)) = .agg #[.int .i64 11, .string (tx a2)] by unfold arA oneF; rw [if_pos g0, if_pos (decide_eq_true g)]; rfl)
      have g' : ((a5.length : Int) != lookA cs a2) = true := by simpa using g
      have f0 : ((0 : Int) == 0) = true := rfl
      have hf := hx1.alloc hx1.size (.cells #[.int .i64 11, .string (tx a2)] 76)
      have hBf := BoxW.alloc (w.alloc (.cells #[.int .i64 0, .string (tx a2), .bool a3, .int .u64 a4, .slice aq a5.length cq, .int .i64 k, .string (tx nm), .bool f, .int .u64 u, .slice ap np cp, .slice ak nk ck, .slice ab nb cb, .slice aa na ca] 52)) #[.int .i64 11, .string (tx a2)] 76
      rw [show (w.alloc (.cells #[.int .i64 0, .string (tx a2), .bool a3, .int .u64 a4, .slice aq a5.length cq, .int .i64 k, .string (tx nm), .bool f, .int .u64 u, .slice ap np cp, .slice ak nk ck, .slice ab nb cb, .slice aa na ca] 52)).heap.size = w.heap.size + 1 by simp] at hBf
      have HX := Hd hf
      have v0 := hBf.1 0 _ rfl
      have v1 := hBf.1 1 _ rfl
      clear hf hBf hx hx1 hB2 hA ht HK
      go_enter Tryd.func80, Tryd.ntmps80
      go_wp2_with fail
      exact bodyPost_ret (v := .agg #[.int .i64 11, .string (tx a2)]) (by simp [results, Tryd.results80, go_sem, v0, v1]) rfl ⟨by rw [HE.out], HX.out⟩
    · have HE := Hd (show arA cs (0, a2, a3, a4, a5, a6) = arE cs a6 by unfold arA oneF; rw [if_pos g0, if_neg (by simpa using g)]; rfl)
      have g' : ((a5.length : Int) != lookA cs a2) = false := by simpa using g
      have f0 : ((0 : Int) == 0) = true := rfl
      have HX := Hd (Ai hx hB2)
      clear hx hx1 hB2 hA ht
      go_enter Tryd.func80, Tryd.ntmps80
      go_wp2_with fail
      refine (HK.out _ HX.out.1).mono ?_
      rintro e w2 ⟨rfl, hb2⟩
      have HB := Hd (Ai (onB' HX.out.1 hb2) (HX.out.2.below hb2))
      have r0 := HB.out.2.1 0 _ rfl
      have r1 := HB.out.2.1 1 _ rfl
      have t0 := HB.out.2.2 0
      have t1 := HB.out.2.2 1
      clear hb2 HK
      have HE2 := Hd (show vF (arA cs (0, a2, a3, a4, a5, a6)) = .agg #[.int .i64 (stN (arE cs a6)).1, .string (tx (stN (arE cs a6)).2)] by rw [HE.out]; rfl)
      unfold vF
      generalize (stN (arE cs a6)).1 = er at *
      generalize (stN (arE cs a6)).2 = nn at *
      go_wp2_with fail
      have v0 := (setTwo r0 r1 (.int .i64 er) (.string (tx nn))).1
      have v1 := (setTwo r0 r1 (.int .i64 er) (.string (tx nn))).2
      exact bodyPost_ret (v := .agg #[.int .i64 er, .string (tx nn)]) (by simp [results, Tryd.results80, go_sem, v0, v1]) rfl ⟨by rw [← HE2.out], below2 HB.out.1 (by omega) _ _⟩
  · have HE := Hd (show arA cs (a1, a2, a3, a4, a5, a6) = arE cs a6 by unfold arA; rw [if_neg g0]; rfl)
    have f0 : (a1 == 0) = false := by simpa using g0
    have HX := Hd (Ai hx hB2)
    clear hx hx1 hB2 hA ht
    go_enter Tryd.func80, Tryd.ntmps80
    go_wp2_with fail
    refine (HK.out _ HX.out.1).mono ?_
    rintro e w2 ⟨rfl, hb2⟩
    have HB := Hd (Ai (onB' HX.out.1 hb2) (HX.out.2.below hb2))
    have r0 := HB.out.2.1 0 _ rfl
    have r1 := HB.out.2.1 1 _ rfl
    have t0 := HB.out.2.2 0
    have t1 := HB.out.2.2 1
    clear hb2 HK
    have HE2 := Hd (show vF (arA cs (a1, a2, a3, a4, a5, a6)) = .agg #[.int .i64 (stN (arE cs a6)).1, .string (tx (stN (arE cs a6)).2)] by rw [HE.out]; rfl)
    unfold vF
    generalize (stN (arE cs a6)).1 = er at *
    generalize (stN (arE cs a6)).2 = nn at *
    go_wp2_with fail
    have v0 := (setTwo r0 r1 (.int .i64 er) (.string (tx nn))).1
    have v1 := (setTwo r0 r1 (.int .i64 er) (.string (tx nn))).2
    exact bodyPost_ret (v := .agg #[.int .i64 er, .string (tx nn)]) (by simp [results, Tryd.results80, go_sem, v0, v1]) rfl ⟨by rw [← HE2.out], below2 HB.out.1 (by omega) _ _⟩
end Go.Proofs.YtdjcdecbmeickaaDoor
