import Derived.Test.YtdjcdecbmeickaaGreatDoorMg5
import Derived.Test.YtdjcdecbmeickaaGreatDoorMg6
import Derived.Test.YtdjcdecbmeickaaGreatDoorMg8
namespace Go.Proofs.YtdjcdecbmeickaaGreatDoor
set_option maxHeartbeats 64000000
set_option maxRecDepth 100000
open Go.RowKit Go.Lib
def FoAr (o : Fo) : Prop := ∀ e n, o = some (e, n) → (e = 11 ∨ e = 12) ∧ n.length ≤ 100000
theorem FoAr.or {a b : Fo} (ha : FoAr a) (hb : FoAr b) : FoAr (a.or b) := by
  cases a with
  | none => simpa using hb
  | some x => intro e n h; exact ha e n (by simpa using h)
theorem oneF_ar {c : Bool} {e : Int} {n : Nm} (he : e = 11 ∨ e = 12) (hn : n.length ≤ 100000) : FoAr (oneF c e n) := by
  intro e' n' h
  unfold oneF at h
  split at h
  · cases h; exact ⟨he, hn⟩
  · cases h
theorem none_ar : FoAr none := fun _ _ h => by cases h
theorem firstF_ar {α : Type} {F : α → Fo} : ∀ {l : List α}, (∀ x, x ∈ l → FoAr (F x)) → FoAr (firstF F l)
  | [], _ => none_ar
  | x :: _, h => FoAr.or (h x (List.mem_cons_self ..)) (firstF_ar fun y hy => h y (List.mem_cons_of_mem _ hy))
theorem arH_ar (cs : List (Nm × Int)) (k : Int) (n : Nm) (ps : List Nm) (nk : Nat) (hn : k = 1 ∨ k = 2 ∨ k = 5 → NmOk n) (hp : ∀ x, x ∈ ps → NmOk x) : FoAr (arH cs k n ps nk) := by
  unfold arH
  split
  · rename_i g; exact oneF_ar (Or.inl rfl) (hn (Or.inr (Or.inl g))).2
  split
  · rename_i g; exact oneF_ar (Or.inl rfl) (hn (Or.inr (Or.inr g))).2
  split
  · exact oneF_ar (Or.inr rfl) (Nat.zero_le _)
  split
  · refine oneF_ar (Or.inr rfl) ?_
    cases ps with
    | nil => exact Nat.zero_le _
    | cons x r => exact (hp x (List.mem_cons_self ..)).2
  · exact none_ar
theorem arE_arn (cs : List (Nm × Int)) : ∀ (n : Nat) (e : Ex), SizeOf.sizeOf e ≤ n → wfE e → FoAr (arE cs e)
  | 0, .mk k n f u ps ks bl al, h, _ => by simp only [Ex.mk.sizeOf_spec] at h; omega
  | n + 1, .mk k nm f u ps ks bl al, h, hw => by
    rw [arE_mk]
    unfold wfE at hw
    obtain ⟨-, -, w3, w4, w5, w6, w7, -, -⟩ := hw
    simp only [Ex.mk.sizeOf_spec] at h
    refine (arH_ar cs k nm ps ks.length w3 w4).or (FoAr.or (firstF_ar fun x hx => ?_) (FoAr.or (firstF_ar fun x hx => ?_) (firstF_ar fun x hx => ?_)))
    · have := List.sizeOf_lt_of_mem hx
      have hb := wfBs_mem w6 x hx
      obtain ⟨a, b, c⟩ := x
      simp only [Prod.mk.sizeOf_spec] at this
      exact (oneF_ar (Or.inr rfl) hb.1.2).or (arE_arn cs n c (by omega) hb.2.2)
    · have := List.sizeOf_lt_of_mem hx
      exact arE_arn cs n x (by omega) (wfEs_mem w5 x hx)
    · have := List.sizeOf_lt_of_mem hx
      have hb := wfAs_mem w7 x hx
      obtain ⟨a, b, c, d, e, g⟩ := x
      simp only [Prod.mk.sizeOf_spec] at this
      refine FoAr.or ?_ (arE_arn cs n g (by omega) hb.2.2)
      show FoAr (if a = 0 then _ else none)
      split
      · rename_i g0; exact oneF_ar (Or.inl rfl) (hb.1 (Or.inl g0)).2
      · exact none_ar
theorem arB_ar (cs : List (Nm × Int)) (b : Bnd) (hb : wB b) : FoAr (arB cs b) := (oneF_ar (Or.inr rfl) hb.1.2).or (arE_arn cs _ _ Nr hb.2.2)
theorem mainF_ar (bs : List Bnd) : FoAr (mainF bs) := oneF_ar (Or.inl rfl) (by decide)
theorem askbind_any (ga gt gb gk gl ma ma2 mt mt2 : Nat) (cs : List (Nm × Int)) (n : Nat) (hP : AskC ga gt gb gk gl ma ma2 mt mt2 cs n) (bd : Bnd) (hz : SizeOf.sizeOf bd.2.2 ≤ n) (hw : wfE bd.2.2) (aq : Option Addr) (cq : Nat) (k : Int) (nm : Nm) (f : Bool) (u : Int) (ap : Option Addr) (np cp : Nat) (ak : Option Addr) (nk ck : Nat) (ab : Option Addr) (nb cb : Nat) (aa : Option Addr) (na ca : Nat) (K3 : Nat → Prop) (w : World) (hm : bd.2.1.length ≤ maxLen) (hA : AskAt w ga gt gb gk gl ma ma2 mt mt2 cs) (ht : ExAt w K3 bd.2.2 [.int .i64 k, .string (tx nm), .bool f, .int .u64 u, .slice ap np cp, .slice ak nk ck, .slice ab nb cb, .slice aa na ca]) :
    Calls Tryz.prog 67 #[.agg #[.string (tx bd.1), .slice aq bd.2.1.length cq, .int .i64 k, .string (tx nm), .bool f, .int .u64 u, .slice ap np cp, .slice ak nk ck, .slice ab nb cb, .slice aa na ca], .pointer (some ⟨gk, 0, none⟩)] w fun e w' => e = .returned (vF (arB cs bd)) ∧ Below w.heap.size w w' := by
  have hx1 := (Below.refl w.heap.size w).alloc Nr (.cells #[.string (tx bd.1), .slice aq bd.2.1.length cq, .int .i64 k, .string (tx nm), .bool f, .int .u64 u, .slice ap np cp, .slice ak nk ck, .slice ab nb cb, .slice aa na ca] 59)
  have hx := hx1.alloc hx1.size (.cells #[.int .i64 0, .string ⟨#[]⟩] 43)
  have hB2 := BoxW.alloc (w.alloc (.cells #[.string (tx bd.1), .slice aq bd.2.1.length cq, .int .i64 k, .string (tx nm), .bool f, .int .u64 u, .slice ap np cp, .slice ak nk ck, .slice ab nb cb, .slice aa na ca] 59)) #[.int .i64 0, .string ⟨#[]⟩] 43
  rw [show (w.alloc (.cells #[.string (tx bd.1), .slice aq bd.2.1.length cq, .int .i64 k, .string (tx nm), .bool f, .int .u64 u, .slice ap np cp, .slice ak nk ck, .slice ab nb cb, .slice aa na ca] 59)).heap.size = w.heap.size + 1 by simp] at hB2
  unfold maxLen at hm
  by_cases g : 24 < bd.2.1.length
  · have HE := Hd (show vF (arB cs bd) = .agg #[.int .i64 12, .string (tx bd.1)] by unfold arB oneF; rw [if_pos (decide_eq_true g)]; rfl)
    have hf := hx1.alloc hx1.size (.cells #[.int .i64 12, .string (tx bd.1)] 43)
    have hBf := BoxW.alloc (w.alloc (.cells #[.string (tx bd.1), .slice aq bd.2.1.length cq, .int .i64 k, .string (tx nm), .bool f, .int .u64 u, .slice ap np cp, .slice ak nk ck, .slice ab nb cb, .slice aa na ca] 59)) #[.int .i64 12, .string (tx bd.1)] 43
    rw [show (w.alloc (.cells #[.string (tx bd.1), .slice aq bd.2.1.length cq, .int .i64 k, .string (tx nm), .bool f, .int .u64 u, .slice ap np cp, .slice ak nk ck, .slice ab nb cb, .slice aa na ca] 59)).heap.size = w.heap.size + 1 by simp] at hBf
    have HX := Hd hf
    have v0 := hBf.1 0 _ rfl
    have v1 := hBf.1 1 _ rfl
    have g' : (24 : Int) < (bd.2.1.length : Int) := by omega
    clear hf hBf hx hx1 hB2 hA ht
    go_enter Tryz.func67, Tryz.ntmps67
    go_wp2_with fail
    exact bodyPost_ret (v := .agg #[.int .i64 12, .string (tx bd.1)]) (by simp [results, Tryz.results67, go_sem, v0, v1]) rfl ⟨by rw [HE.out], HX.out⟩
  · have HE := Hd (show arB cs bd = arE cs bd.2.2 by unfold arB oneF; rw [if_neg (by simpa using g)]; rfl)
    have g' : ¬ (24 : Int) < (bd.2.1.length : Int) := by omega
    have HK := Hd (fun (W : World) (hb : Below w.heap.size w W) => hP bd.2.2 K3 W k nm f u ap np cp ak nk ck ab nb cb aa na ca hz hw (hA.later hb) (ht.move fun g hk lt => ⟨hk, hb.block g lt⟩))
    have HX := Hd (Ai hx hB2)
    have y3 := later' hx hA.k
    have eg := enters_of Tryz.func69 (by kernel_rfl) rfl
    clear hx hx1 hB2 hA ht
    go_enter Tryz.func67, Tryz.ntmps67
    go_wp2_with fail
    refine (HK.out _ HX.out.1).mono ?_
    rintro e w2 ⟨rfl, hb2⟩
    have HB := Hd (Ai (onB' HX.out.1 hb2) (HX.out.2.below hb2))
    have r0 := HB.out.2.1 0 _ rfl
    have r1 := HB.out.2.1 1 _ rfl
    have t0 := HB.out.2.2 0
    have t1 := HB.out.2.2 1
    clear hb2 HK
    have HE2 := Hd (show vF (arB cs bd) = .agg #[.int .i64 (stN (arE cs bd.2.2)).1, .string (tx (stN (arE cs bd.2.2)).2)] by rw [HE.out]; rfl)
    unfold vF
    generalize (stN (arE cs bd.2.2)).1 = er at *
    generalize (stN (arE cs bd.2.2)).2 = nn at *
    go_wp2_with fail
    have v0 := (setTwo r0 r1 (.int .i64 er) (.string (tx nn))).1
    have v1 := (setTwo r0 r1 (.int .i64 er) (.string (tx nn))).2
    exact bodyPost_ret (v := .agg #[.int .i64 er, .string (tx nn)]) (by simp [results, Tryz.results67, go_sem, v0, v1]) rfl ⟨by rw [← HE2.out], below2 HB.out.1 (by omega) _ _⟩
theorem askalt_any (ga gt gb gk gl ma ma2 mt mt2 : Nat) (cs : List (Nm × Int)) (n : Nat) (hP : AskC ga gt gb gk gl ma ma2 mt mt2 cs n) (a1 : Int) (a2 : Nm) (a3 : Bool) (a4 : Int) (a5 : List Nm) (a6 : Ex) (hz : SizeOf.sizeOf a6 ≤ n) (hw : wA (a1, a2, a3, a4, a5, a6)) (aq : Option Addr) (cq : Nat) (k : Int) (nm : Nm) (f : Bool) (u : Int) (ap : Option Addr) (np cp : Nat) (ak : Option Addr) (nk ck : Nat) (ab : Option Addr) (nb cb : Nat) (aa : Option Addr) (na ca : Nat) (K3 : Nat → Prop) (w : World) (hA : AskAt w ga gt gb gk gl ma ma2 mt mt2 cs) (ht : ExAt w K3 a6 [.int .i64 k, .string (tx nm), .bool f, .int .u64 u, .slice ap np cp, .slice ak nk ck, .slice ab nb cb, .slice aa na ca]) :
    Calls Tryz.prog 68 #[.agg #[.int .i64 a1, .string (tx a2), .bool a3, .int .u64 a4, .slice aq a5.length cq, .int .i64 k, .string (tx nm), .bool f, .int .u64 u, .slice ap np cp, .slice ak nk ck, .slice ab nb cb, .slice aa na ca], .pointer (some ⟨ga, 0, none⟩), .pointer (some ⟨gk, 0, none⟩)] w fun e w' => e = .returned (vF (arA cs (a1, a2, a3, a4, a5, a6))) ∧ Below w.heap.size w w' := by
  have hx1 := (Below.refl w.heap.size w).alloc Nr (.cells #[.int .i64 a1, .string (tx a2), .bool a3, .int .u64 a4, .slice aq a5.length cq, .int .i64 k, .string (tx nm), .bool f, .int .u64 u, .slice ap np cp, .slice ak nk ck, .slice ab nb cb, .slice aa na ca] 135)
  have hx := hx1.alloc hx1.size (.cells #[.int .i64 0, .string ⟨#[]⟩] 43)
  have hB2 := BoxW.alloc (w.alloc (.cells #[.int .i64 a1, .string (tx a2), .bool a3, .int .u64 a4, .slice aq a5.length cq, .int .i64 k, .string (tx nm), .bool f, .int .u64 u, .slice ap np cp, .slice ak nk ck, .slice ab nb cb, .slice aa na ca] 135)) #[.int .i64 0, .string ⟨#[]⟩] 43
  rw [show (w.alloc (.cells #[.int .i64 a1, .string (tx a2), .bool a3, .int .u64 a4, .slice aq a5.length cq, .int .i64 k, .string (tx nm), .bool f, .int .u64 u, .slice ap np cp, .slice ak nk ck, .slice ab nb cb, .slice aa na ca] 135)).heap.size = w.heap.size + 1 by simp] at hB2
  have HK := Hd (fun (W : World) (hb : Below w.heap.size w W) => hP a6 K3 W k nm f u ap np cp ak nk ck ab nb cb aa na ca hz hw.2.2 (hA.later hb) (ht.move fun g hk lt => ⟨hk, hb.block g lt⟩))
  have y0 := later' hx hA.a
  have y3 := later' hx hA.k
  have eg := enters_of Tryz.func69 (by kernel_rfl) rfl
  by_cases g0 : a1 = 0
  · subst g0
    have g0 : (0 : Int) = 0 := rfl
    have hl := (hA.am.later hx).look a2 (hw.1 (Or.inl g0)).2
    by_cases g : ((a5.length : Int) ≠ lookA cs a2)
    · have HE := Hd (show vF (arA cs (0, a2, a3, a4, a5, a6)) = .agg #[.int .i64 11, .string (tx a2)] by unfold arA oneF; rw [if_pos g0, if_pos (decide_eq_true g)]; rfl)
      have g' : ((a5.length : Int) != lookA cs a2) = true := by simpa using g
      have f0 : ((0 : Int) == 0) = true := rfl
      have hf := hx1.alloc hx1.size (.cells #[.int .i64 11, .string (tx a2)] 43)
      have hBf := BoxW.alloc (w.alloc (.cells #[.int .i64 0, .string (tx a2), .bool a3, .int .u64 a4, .slice aq a5.length cq, .int .i64 k, .string (tx nm), .bool f, .int .u64 u, .slice ap np cp, .slice ak nk ck, .slice ab nb cb, .slice aa na ca] 135)) #[.int .i64 11, .string (tx a2)] 43
      rw [show (w.alloc (.cells #[.int .i64 0, .string (tx a2), .bool a3, .int .u64 a4, .slice aq a5.length cq, .int .i64 k, .string (tx nm), .bool f, .int .u64 u, .slice ap np cp, .slice ak nk ck, .slice ab nb cb, .slice aa na ca] 135)).heap.size = w.heap.size + 1 by simp] at hBf
      have HX := Hd hf
      have v0 := hBf.1 0 _ rfl
      have v1 := hBf.1 1 _ rfl
      clear hf hBf hx hx1 hB2 hA ht HK
      go_enter Tryz.func68, Tryz.ntmps68
      go_wp2_with fail
      exact bodyPost_ret (v := .agg #[.int .i64 11, .string (tx a2)]) (by simp [results, Tryz.results68, go_sem, v0, v1]) rfl ⟨by rw [HE.out], HX.out⟩
    · have HE := Hd (show arA cs (0, a2, a3, a4, a5, a6) = arE cs a6 by unfold arA oneF; rw [if_pos g0, if_neg (by simpa using g)]; rfl)
      have g' : ((a5.length : Int) != lookA cs a2) = false := by simpa using g
      have f0 : ((0 : Int) == 0) = true := rfl
      have HX := Hd (Ai hx hB2)
      clear hx hx1 hB2 hA ht
      go_enter Tryz.func68, Tryz.ntmps68
      go_wp2_with fail
      refine (HK.out _ HX.out.1).mono ?_
      rintro e w2 ⟨rfl, hb2⟩
      have HB := Hd (Ai (onB' HX.out.1 hb2) (HX.out.2.below hb2))
      have r0 := HB.out.2.1 0 _ rfl
      have r1 := HB.out.2.1 1 _ rfl
      have t0 := HB.out.2.2 0
      have t1 := HB.out.2.2 1
      clear hb2 HK
      have HE2 := Hd (show vF (arA cs (0, a2, a3, a4, a5, a6)) = .agg #[.int .i64 (stN (arE cs a6)).1, .string (tx (stN (arE cs a6)).2)] by rw [HE.out]; rfl)
      unfold vF
      generalize (stN (arE cs a6)).1 = er at *
      generalize (stN (arE cs a6)).2 = nn at *
      go_wp2_with fail
      have v0 := (setTwo r0 r1 (.int .i64 er) (.string (tx nn))).1
      have v1 := (setTwo r0 r1 (.int .i64 er) (.string (tx nn))).2
      exact bodyPost_ret (v := .agg #[.int .i64 er, .string (tx nn)]) (by simp [results, Tryz.results68, go_sem, v0, v1]) rfl ⟨by rw [← HE2.out], below2 HB.out.1 (by omega) _ _⟩
  · have HE := Hd (show arA cs (a1, a2, a3, a4, a5, a6) = arE cs a6 by unfold arA; rw [if_neg g0]; rfl)
    have f0 : (a1 == 0) = false := by simpa using g0
    have HX := Hd (Ai hx hB2)
    clear hx hx1 hB2 hA ht
    go_enter Tryz.func68, Tryz.ntmps68
    go_wp2_with fail
    refine (HK.out _ HX.out.1).mono ?_
    rintro e w2 ⟨rfl, hb2⟩
    have HB := Hd (Ai (onB' HX.out.1 hb2) (HX.out.2.below hb2))
    have r0 := HB.out.2.1 0 _ rfl
    have r1 := HB.out.2.1 1 _ rfl
    have t0 := HB.out.2.2 0
    have t1 := HB.out.2.2 1
    clear hb2 HK
    have HE2 := Hd (show vF (arA cs (a1, a2, a3, a4, a5, a6)) = .agg #[.int .i64 (stN (arE cs a6)).1, .string (tx (stN (arE cs a6)).2)] by rw [HE.out]; rfl)
    unfold vF
    generalize (stN (arE cs a6)).1 = er at *
    generalize (stN (arE cs a6)).2 = nn at *
    go_wp2_with fail
    have v0 := (setTwo r0 r1 (.int .i64 er) (.string (tx nn))).1
    have v1 := (setTwo r0 r1 (.int .i64 er) (.string (tx nn))).2
    exact bodyPost_ret (v := .agg #[.int .i64 er, .string (tx nn)]) (by simp [results, Tryz.results68, go_sem, v0, v1]) rfl ⟨by rw [← HE2.out], below2 HB.out.1 (by omega) _ _⟩
theorem ask_step (ga gt gb gk gl ma ma2 mt mt2 : Nat) (cs : List (Nm × Int)) (n : Nat) (hP : AskC ga gt gb gk gl ma ma2 mt mt2 cs n) : AskC ga gt gb gk gl ma ma2 mt mt2 cs (n + 1) := by
  intro x K w k nm f u ap np cp ak nk ck ab nb cb aa na ca hz hw hA ht
  obtain ⟨ps, ks, bl, al, xk, xb, xa, rfl, rfl, rfl, rfl, rfl, hp, hk, hb, ha, tk, tb, ta⟩ := ht.opened
  unfold wfE at hw
  obtain ⟨-, -, w3, w4, w5, w6, w7, -, -⟩ := hw
  simp only [Ex.mk.sizeOf_spec] at hz
  have hmp := hp.cap
  have hmk := hk.cap
  unfold maxLen at hmp hmk
  have HF1 := Hd (fun (W : World) (hbw : Below w.heap.size w W) => afirst_bind gk (arB cs) bl (fun x _ => arB_nz cs x) ab cb K K xb W (hb.move fun g hg lt => ⟨hg, hbw.block g lt⟩) (tb.move fun g hg lt => ⟨hg, hbw.block g lt⟩)
    (fun j hj aq cq k nm f u ap np cp ak nk ck ab nb cb aa na ca V hV hQ hE => askbind_any ga gt gb gk gl ma ma2 mt mt2 cs n hP bl[j] (by have hm := List.sizeOf_lt_of_mem (List.getElem_mem hj); generalize bl[j] = b at *; obtain ⟨b1, b2, b3⟩ := b; simp only [Prod.mk.sizeOf_spec] at hm ⊢; omega) (wfBs_mem w6 _ (List.getElem_mem hj)).2.2 aq cq k nm f u ap np cp ak nk ck ab nb cb aa na ca K V hQ.cap (hA.later (onB' hbw hV)) hE))
  have HF2 := Hd (fun (W : World) (hbw : Below w.heap.size w W) => afirst_expr ga gt gb gk gl (arE cs) ks (fun x _ => arE_nz cs x) ak ck K K xk W (hk.move fun g hg lt => ⟨hg, hbw.block g lt⟩) (tk.move fun g hg lt => ⟨hg, hbw.block g lt⟩)
    (fun j hj k nm f u ap np cp ak nk ck ab nb cb aa na ca V hV hE => hP ks[j] K V k nm f u ap np cp ak nk ck ab nb cb aa na ca (by have hm := List.sizeOf_lt_of_mem (List.getElem_mem hj); omega) (wfEs_mem w5 _ (List.getElem_mem hj)) (hA.later (onB' hbw hV)) hE))
  have HF3 := Hd (fun (W : World) (hbw : Below w.heap.size w W) => afirst_alt ga gk (arA cs) al (fun x _ => arA_nz cs x) aa ca K K xa W (ha.move fun g hg lt => ⟨hg, hbw.block g lt⟩) (ta.move fun g hg lt => ⟨hg, hbw.block g lt⟩)
    (fun j hj aq cq k nm f u ap np cp ak nk ck ab nb cb aa na ca V hV hQ hE => askalt_any ga gt gb gk gl ma ma2 mt mt2 cs n hP al[j].1 al[j].2.1 al[j].2.2.1 al[j].2.2.2.1 al[j].2.2.2.2.1 al[j].2.2.2.2.2 (by have hm := List.sizeOf_lt_of_mem (List.getElem_mem hj); generalize al[j] = b at *; obtain ⟨b1, b2, b3, b4, b5, b6⟩ := b; simp only [Prod.mk.sizeOf_spec] at hm ⊢; omega) (wfAs_mem w7 _ (List.getElem_mem hj)) aq cq k nm f u ap np cp ak nk ck ab nb cb aa na ca K V (hA.later (onB' hbw hV)) hE))
  have HA := Hd hA
  have HM := Hd (arE_mk cs k nm f u ps ks bl al)
  have eg3 := enters_of Tryz.func69 (by kernel_rfl) rfl
  by_cases g2 : k = 2
  · have hnm := (w3 (Or.inr (Or.inl g2))).2
    have HL := Hd (fun (W : World) (hbw : Below w.heap.size w W) => (hA.later hbw).am.look nm hnm)
    have hH : arH cs k nm ps ks.length = oneF (decide ((ks.length : Int) ≠ lookA cs nm)) 11 nm := by unfold arH; rw [if_pos g2]
    rw [hH] at HM
    clear hH hA hp hk hb ha tk tb ta ht w3 w4 w5 w6 w7 hz
    subst g2
    by_cases g : ((ks.length : Int) ≠ lookA cs nm)
    · have HE := Hd (show vF (arE cs (.mk 2 nm f u ps ks bl al)) = .agg #[.int .i64 11, .string (tx nm)] by rw [HM.out]; unfold oneF; rw [if_pos (decide_eq_true g)]; rfl)
      have g' : ((ks.length : Int) != lookA cs nm) = true := by simpa using g
      have hx1 := (Below.refl w.heap.size w).alloc Nr (.cells #[.int .i64 2, .string (tx nm), .bool f, .int .u64 u, .slice ap ps.length cp, .slice ak ks.length ck, .slice ab bl.length cb, .slice aa al.length ca] 57)
      have hB1 := (BoxW.alloc w #[.int .i64 2, .string (tx nm), .bool f, .int .u64 u, .slice ap ps.length cp, .slice ak ks.length ck, .slice ab bl.length cb, .slice aa al.length ca] 57).below (Br.alloc Nr (.cells #[.int .i64 0, .string ⟨#[]⟩] 43))
      have hx := hx1.alloc hx1.size (.cells #[.int .i64 0, .string ⟨#[]⟩] 43)
      have hB2 := BoxW.alloc (w.alloc (.cells #[.int .i64 2, .string (tx nm), .bool f, .int .u64 u, .slice ap ps.length cp, .slice ak ks.length ck, .slice ab bl.length cb, .slice aa al.length ca] 57)) #[.int .i64 0, .string ⟨#[]⟩] 43
      rw [show (w.alloc (.cells #[.int .i64 2, .string (tx nm), .bool f, .int .u64 u, .slice ap ps.length cp, .slice ak ks.length ck, .slice ab bl.length cb, .slice aa al.length ca] 57)).heap.size = w.heap.size + 1 by simp] at hB2
      have y0 := later' hx HA.out.a
      have y1 := later' hx HA.out.t
      have y2 := later' hx HA.out.b
      have y3 := later' hx HA.out.k
      have y4 := later' hx HA.out.l
      have hf := hx1.alloc hx1.size (.cells #[.int .i64 11, .string (tx nm)] 43)
      have hBf := BoxW.alloc (w.alloc (.cells #[.int .i64 2, .string (tx nm), .bool f, .int .u64 u, .slice ap ps.length cp, .slice ak ks.length ck, .slice ab bl.length cb, .slice aa al.length ca] 57)) #[.int .i64 11, .string (tx nm)] 43
      rw [show (w.alloc (.cells #[.int .i64 2, .string (tx nm), .bool f, .int .u64 u, .slice ap ps.length cp, .slice ak ks.length ck, .slice ab bl.length cb, .slice aa al.length ca] 57)).heap.size = w.heap.size + 1 by simp] at hBf
      have HX := Hd hf
      have v0 := hBf.1 0 _ rfl
      have v1 := hBf.1 1 _ rfl
      clear hf hBf
      have hl := HL.out _ hx
      clear HF1 HF2 HF3 hx hx1 hB1 hB2
      go_enter Tryz.func69, Tryz.ntmps69
      go_wp2_with fail
      exact bodyPost_ret (v := .agg #[.int .i64 11, .string (tx nm)]) (by simp [results, Tryz.results69, go_sem, v0, v1]) rfl ⟨by first | (rw [HE.out]; done) | (rw [HE.out]; rfl), HX.out⟩
    · have HE := Hd (show arE cs (.mk 2 nm f u ps ks bl al) = ((firstF (arB cs) bl).or ((firstF (arE cs) ks).or (firstF (arA cs) al))) by rw [HM.out]; unfold oneF; rw [if_neg (by simpa using g)]; rfl)
      have g' : ((ks.length : Int) != lookA cs nm) = false := by simpa using g
      have hx1 := (Below.refl w.heap.size w).alloc Nr (.cells #[.int .i64 2, .string (tx nm), .bool f, .int .u64 u, .slice ap ps.length cp, .slice ak ks.length ck, .slice ab bl.length cb, .slice aa al.length ca] 57)
      have hB1 := (BoxW.alloc w #[.int .i64 2, .string (tx nm), .bool f, .int .u64 u, .slice ap ps.length cp, .slice ak ks.length ck, .slice ab bl.length cb, .slice aa al.length ca] 57).below (Br.alloc Nr (.cells #[.int .i64 0, .string ⟨#[]⟩] 43))
      have hx := hx1.alloc hx1.size (.cells #[.int .i64 0, .string ⟨#[]⟩] 43)
      have hB2 := BoxW.alloc (w.alloc (.cells #[.int .i64 2, .string (tx nm), .bool f, .int .u64 u, .slice ap ps.length cp, .slice ak ks.length ck, .slice ab bl.length cb, .slice aa al.length ca] 57)) #[.int .i64 0, .string ⟨#[]⟩] 43
      rw [show (w.alloc (.cells #[.int .i64 2, .string (tx nm), .bool f, .int .u64 u, .slice ap ps.length cp, .slice ak ks.length ck, .slice ab bl.length cb, .slice aa al.length ca] 57)).heap.size = w.heap.size + 1 by simp] at hB2
      have y0 := later' hx HA.out.a
      have y1 := later' hx HA.out.t
      have y2 := later' hx HA.out.b
      have y3 := later' hx HA.out.k
      have y4 := later' hx HA.out.l
      have HX := Hd (Ai hx (Ai hB1 hB2))
      have hl := HL.out _ hx
      clear hx hx1 hB1 hB2
      go_enter Tryz.func69, Tryz.ntmps69
      go_wp2_with fail
      refine (HF1.out _ HX.out.1).mono ?_
      rintro e w2 ⟨rfl, hb2⟩
      have HB2 := Hd (Ai (onB' HX.out.1 hb2) (Ai (HX.out.2.1.below hb2) (HX.out.2.2.below hb2)))
      clear hb2 HF1 HX
      cases hfo : firstF (arB cs) bl with
      | some fo =>
        obtain ⟨er, nn⟩ := fo
        have HT := Hd hfo
        have hne : (er != 0) = true := by simpa using firstF_nz (fun x _ => arB_nz cs x) er nn hfo
        have hyf := (Below.refl w2.heap.size w2).alloc Nr (.cells #[.int .i64 er, .string (tx nn)] 43)
        have HBn := Hd (onB' HB2.out.1 hyf)
        have hbr := HB2.out.2.2.below hyf
        have r0 := hbr.1 0 _ rfl
        have r1 := hbr.1 1 _ rfl
        have t0 := hbr.2 0
        have t1 := hbr.2 1
        clear hbr hyf
        have ev : vF (some (er, nn)) = .agg #[.int .i64 er, .string (tx nn)] := rfl
        rw [ev]
        clear ev hfo
        go_wp2_with fail
        have v0 := (setTwo r0 r1 (.int .i64 er) (.string (tx nn))).1
        have v1 := (setTwo r0 r1 (.int .i64 er) (.string (tx nn))).2
        exact bodyPost_ret (v := .agg #[.int .i64 er, .string (tx nn)]) (by simp [results, Tryz.results69, go_sem, v0, v1]) rfl ⟨by rw [HE.out, HT.out]; rfl, below2 HBn.out (by omega) _ _⟩
      | none =>
        have HT := Hd hfo
        have hy := (Below.refl w2.heap.size w2).alloc Nr (.cells #[.int .i64 0, .string ⟨#[]⟩] 43)
        have HX := Hd (Ai (onB' HB2.out.1 hy) (Ai (HB2.out.2.1.below hy) (HB2.out.2.2.below hy)))
        have ev : vF none = .agg #[.int .i64 0, .string ⟨#[]⟩] := rfl
        rw [ev]
        clear ev hfo
        have hz2 : (w2.alloc (.cells #[.int .i64 0, .string ⟨#[]⟩] 43)).heap.size = w2.heap.size + 1 := by simp
        have q4 : (w2.alloc (.cells #[.int .i64 0, .string ⟨#[]⟩] 43)).cell? ⟨w.heap.size, 4, none⟩ = some (.slice ap ps.length cp) := HX.out.2.1.1 4 _ rfl
        have q5 : (w2.alloc (.cells #[.int .i64 0, .string ⟨#[]⟩] 43)).cell? ⟨w.heap.size, 5, none⟩ = some (.slice ak ks.length ck) := HX.out.2.1.1 5 _ rfl
        have q6 : (w2.alloc (.cells #[.int .i64 0, .string ⟨#[]⟩] 43)).cell? ⟨w.heap.size, 6, none⟩ = some (.slice ab bl.length cb) := HX.out.2.1.1 6 _ rfl
        have q7 : (w2.alloc (.cells #[.int .i64 0, .string ⟨#[]⟩] 43)).cell? ⟨w.heap.size, 7, none⟩ = some (.slice aa al.length ca) := HX.out.2.1.1 7 _ rfl
        have y3 := later' HX.out.1 HA.out.k
        have y4 := later' HX.out.1 HA.out.l
        clear hy
        go_wp2_with fail
        refine (HF2.out _ HX.out.1).mono ?_
        rintro e w3 ⟨rfl, hb3⟩
        have HB3 := Hd (Ai (onB' HX.out.1 hb3) (Ai (HX.out.2.1.below hb3) (HX.out.2.2.below hb3)))
        clear hb3 HF2 HX
        cases hfo : firstF (arE cs) ks with
        | some fo =>
          obtain ⟨er, nn⟩ := fo
          have HT2 := Hd hfo
          have hne : (er != 0) = true := by simpa using firstF_nz (fun x _ => arE_nz cs x) er nn hfo
          have hyf := (Below.refl w3.heap.size w3).alloc Nr (.cells #[.int .i64 er, .string (tx nn)] 43)
          have HBn := Hd (onB' HB3.out.1 hyf)
          have hbr := HB3.out.2.2.below hyf
          have r0 := hbr.1 0 _ rfl
          have r1 := hbr.1 1 _ rfl
          have t0 := hbr.2 0
          have t1 := hbr.2 1
          clear hbr hyf
          have ev : vF (some (er, nn)) = .agg #[.int .i64 er, .string (tx nn)] := rfl
          rw [ev]
          clear ev hfo
          go_wp2_with fail
          have v0 := (setTwo r0 r1 (.int .i64 er) (.string (tx nn))).1
          have v1 := (setTwo r0 r1 (.int .i64 er) (.string (tx nn))).2
          exact bodyPost_ret (v := .agg #[.int .i64 er, .string (tx nn)]) (by simp [results, Tryz.results69, go_sem, v0, v1]) rfl ⟨by rw [HE.out, HT.out, HT2.out]; rfl, below2 HBn.out (by omega) _ _⟩
        | none =>
          have HT2 := Hd hfo
          have hy := (Below.refl w3.heap.size w3).alloc Nr (.cells #[.int .i64 0, .string ⟨#[]⟩] 43)
          have HX := Hd (Ai (onB' HB3.out.1 hy) (Ai (HB3.out.2.1.below hy) (HB3.out.2.2.below hy)))
          have ev : vF none = .agg #[.int .i64 0, .string ⟨#[]⟩] := rfl
          rw [ev]
          clear ev hfo
          have q7 : (w3.alloc (.cells #[.int .i64 0, .string ⟨#[]⟩] 43)).cell? ⟨w.heap.size, 7, none⟩ = some (.slice aa al.length ca) := HX.out.2.1.1 7 _ rfl
          have y4 := later' HX.out.1 HA.out.l
          clear hy
          go_wp2_with fail
          refine (HF3.out _ HX.out.1).mono ?_
          rintro e w4 ⟨rfl, hb4⟩
          have HB4 := Hd (Ai (onB' HX.out.1 hb4) (HX.out.2.2.below hb4))
          clear hb4 HF3 HX
          have r0 := HB4.out.2.1 0 _ rfl
          have r1 := HB4.out.2.1 1 _ rfl
          have t0 := HB4.out.2.2 0
          have t1 := HB4.out.2.2 1
          have HE2 := Hd (show vF (arE cs (.mk 2 nm f u ps ks bl al)) = .agg #[.int .i64 (stN (firstF (arA cs) al)).1, .string (tx (stN (firstF (arA cs) al)).2)] by rw [HE.out, HT.out, HT2.out]; rfl)
          unfold vF
          generalize (stN (firstF (arA cs) al)).1 = er at *
          generalize (stN (firstF (arA cs) al)).2 = nn at *
          go_wp2_with fail
          have v0 := (setTwo r0 r1 (.int .i64 er) (.string (tx nn))).1
          have v1 := (setTwo r0 r1 (.int .i64 er) (.string (tx nn))).2
          exact bodyPost_ret (v := .agg #[.int .i64 er, .string (tx nn)]) (by simp [results, Tryz.results69, go_sem, v0, v1]) rfl ⟨by rw [← HE2.out], below2 HB4.out.1 (by omega) _ _⟩
  by_cases g5 : k = 5
  · have hnm := (w3 (Or.inr (Or.inr g5))).2
    have HL := Hd (fun (W : World) (hbw : Below w.heap.size w W) => (hA.later hbw).tm.look nm hnm)
    have hH : arH cs k nm ps ks.length = oneF (decide ((ks.length : Int) ≠ takesL nm)) 11 nm := by unfold arH; rw [if_neg g2, if_pos g5]
    rw [hH] at HM
    clear hH hA hp hk hb ha tk tb ta ht w3 w4 w5 w6 w7 hz
    have f2 : ((5 : Int) == 2) = false := rfl
    subst g5
    by_cases g : ((ks.length : Int) ≠ takesL nm)
    · have HE := Hd (show vF (arE cs (.mk 5 nm f u ps ks bl al)) = .agg #[.int .i64 11, .string (tx nm)] by rw [HM.out]; unfold oneF; rw [if_pos (decide_eq_true g)]; rfl)
      have g' : ((ks.length : Int) != takesL nm) = true := by simpa using g
      have hx1 := (Below.refl w.heap.size w).alloc Nr (.cells #[.int .i64 5, .string (tx nm), .bool f, .int .u64 u, .slice ap ps.length cp, .slice ak ks.length ck, .slice ab bl.length cb, .slice aa al.length ca] 57)
      have hB1 := (BoxW.alloc w #[.int .i64 5, .string (tx nm), .bool f, .int .u64 u, .slice ap ps.length cp, .slice ak ks.length ck, .slice ab bl.length cb, .slice aa al.length ca] 57).below (Br.alloc Nr (.cells #[.int .i64 0, .string ⟨#[]⟩] 43))
      have hx := hx1.alloc hx1.size (.cells #[.int .i64 0, .string ⟨#[]⟩] 43)
      have hB2 := BoxW.alloc (w.alloc (.cells #[.int .i64 5, .string (tx nm), .bool f, .int .u64 u, .slice ap ps.length cp, .slice ak ks.length ck, .slice ab bl.length cb, .slice aa al.length ca] 57)) #[.int .i64 0, .string ⟨#[]⟩] 43
      rw [show (w.alloc (.cells #[.int .i64 5, .string (tx nm), .bool f, .int .u64 u, .slice ap ps.length cp, .slice ak ks.length ck, .slice ab bl.length cb, .slice aa al.length ca] 57)).heap.size = w.heap.size + 1 by simp] at hB2
      have y0 := later' hx HA.out.a
      have y1 := later' hx HA.out.t
      have y2 := later' hx HA.out.b
      have y3 := later' hx HA.out.k
      have y4 := later' hx HA.out.l
      have hf := hx1.alloc hx1.size (.cells #[.int .i64 11, .string (tx nm)] 43)
      have hBf := BoxW.alloc (w.alloc (.cells #[.int .i64 5, .string (tx nm), .bool f, .int .u64 u, .slice ap ps.length cp, .slice ak ks.length ck, .slice ab bl.length cb, .slice aa al.length ca] 57)) #[.int .i64 11, .string (tx nm)] 43
      rw [show (w.alloc (.cells #[.int .i64 5, .string (tx nm), .bool f, .int .u64 u, .slice ap ps.length cp, .slice ak ks.length ck, .slice ab bl.length cb, .slice aa al.length ca] 57)).heap.size = w.heap.size + 1 by simp] at hBf
      have HX := Hd hf
      have v0 := hBf.1 0 _ rfl
      have v1 := hBf.1 1 _ rfl
      clear hf hBf
      have hl := HL.out _ hx
      clear HF1 HF2 HF3 hx hx1 hB1 hB2
      go_enter Tryz.func69, Tryz.ntmps69
      go_wp2_with fail
      exact bodyPost_ret (v := .agg #[.int .i64 11, .string (tx nm)]) (by simp [results, Tryz.results69, go_sem, v0, v1]) rfl ⟨by first | (rw [HE.out]; done) | (rw [HE.out]; rfl), HX.out⟩
    · have HE := Hd (show arE cs (.mk 5 nm f u ps ks bl al) = ((firstF (arB cs) bl).or ((firstF (arE cs) ks).or (firstF (arA cs) al))) by rw [HM.out]; unfold oneF; rw [if_neg (by simpa using g)]; rfl)
      have g' : ((ks.length : Int) != takesL nm) = false := by simpa using g
      have hx1 := (Below.refl w.heap.size w).alloc Nr (.cells #[.int .i64 5, .string (tx nm), .bool f, .int .u64 u, .slice ap ps.length cp, .slice ak ks.length ck, .slice ab bl.length cb, .slice aa al.length ca] 57)
      have hB1 := (BoxW.alloc w #[.int .i64 5, .string (tx nm), .bool f, .int .u64 u, .slice ap ps.length cp, .slice ak ks.length ck, .slice ab bl.length cb, .slice aa al.length ca] 57).below (Br.alloc Nr (.cells #[.int .i64 0, .string ⟨#[]⟩] 43))
      have hx := hx1.alloc hx1.size (.cells #[.int .i64 0, .string ⟨#[]⟩] 43)
      have hB2 := BoxW.alloc (w.alloc (.cells #[.int .i64 5, .string (tx nm), .bool f, .int .u64 u, .slice ap ps.length cp, .slice ak ks.length ck, .slice ab bl.length cb, .slice aa al.length ca] 57)) #[.int .i64 0, .string ⟨#[]⟩] 43
      rw [show (w.alloc (.cells #[.int .i64 5, .string (tx nm), .bool f, .int .u64 u, .slice ap ps.length cp, .slice ak ks.length ck, .slice ab bl.length cb, .slice aa al.length ca] 57)).heap.size = w.heap.size + 1 by simp] at hB2
      have y0 := later' hx HA.out.a
      have y1 := later' hx HA.out.t
      have y2 := later' hx HA.out.b
      have y3 := later' hx HA.out.k
      have y4 := later' hx HA.out.l
      have HX := Hd (Ai hx (Ai hB1 hB2))
      have hl := HL.out _ hx
      clear hx hx1 hB1 hB2
      go_enter Tryz.func69, Tryz.ntmps69
      go_wp2_with fail
      refine (HF1.out _ HX.out.1).mono ?_
      rintro e w2 ⟨rfl, hb2⟩
      have HB2 := Hd (Ai (onB' HX.out.1 hb2) (Ai (HX.out.2.1.below hb2) (HX.out.2.2.below hb2)))
      clear hb2 HF1 HX
      cases hfo : firstF (arB cs) bl with
      | some fo =>
        obtain ⟨er, nn⟩ := fo
        have HT := Hd hfo
        have hne : (er != 0) = true := by simpa using firstF_nz (fun x _ => arB_nz cs x) er nn hfo
        have hyf := (Below.refl w2.heap.size w2).alloc Nr (.cells #[.int .i64 er, .string (tx nn)] 43)
        have HBn := Hd (onB' HB2.out.1 hyf)
        have hbr := HB2.out.2.2.below hyf
        have r0 := hbr.1 0 _ rfl
        have r1 := hbr.1 1 _ rfl
        have t0 := hbr.2 0
        have t1 := hbr.2 1
        clear hbr hyf
        have ev : vF (some (er, nn)) = .agg #[.int .i64 er, .string (tx nn)] := rfl
        rw [ev]
        clear ev hfo
        go_wp2_with fail
        have v0 := (setTwo r0 r1 (.int .i64 er) (.string (tx nn))).1
        have v1 := (setTwo r0 r1 (.int .i64 er) (.string (tx nn))).2
        exact bodyPost_ret (v := .agg #[.int .i64 er, .string (tx nn)]) (by simp [results, Tryz.results69, go_sem, v0, v1]) rfl ⟨by rw [HE.out, HT.out]; rfl, below2 HBn.out (by omega) _ _⟩
      | none =>
        have HT := Hd hfo
        have hy := (Below.refl w2.heap.size w2).alloc Nr (.cells #[.int .i64 0, .string ⟨#[]⟩] 43)
        have HX := Hd (Ai (onB' HB2.out.1 hy) (Ai (HB2.out.2.1.below hy) (HB2.out.2.2.below hy)))
        have ev : vF none = .agg #[.int .i64 0, .string ⟨#[]⟩] := rfl
        rw [ev]
        clear ev hfo
        have hz2 : (w2.alloc (.cells #[.int .i64 0, .string ⟨#[]⟩] 43)).heap.size = w2.heap.size + 1 := by simp
        have q4 : (w2.alloc (.cells #[.int .i64 0, .string ⟨#[]⟩] 43)).cell? ⟨w.heap.size, 4, none⟩ = some (.slice ap ps.length cp) := HX.out.2.1.1 4 _ rfl
        have q5 : (w2.alloc (.cells #[.int .i64 0, .string ⟨#[]⟩] 43)).cell? ⟨w.heap.size, 5, none⟩ = some (.slice ak ks.length ck) := HX.out.2.1.1 5 _ rfl
        have q6 : (w2.alloc (.cells #[.int .i64 0, .string ⟨#[]⟩] 43)).cell? ⟨w.heap.size, 6, none⟩ = some (.slice ab bl.length cb) := HX.out.2.1.1 6 _ rfl
        have q7 : (w2.alloc (.cells #[.int .i64 0, .string ⟨#[]⟩] 43)).cell? ⟨w.heap.size, 7, none⟩ = some (.slice aa al.length ca) := HX.out.2.1.1 7 _ rfl
        have y3 := later' HX.out.1 HA.out.k
        have y4 := later' HX.out.1 HA.out.l
        clear hy
        go_wp2_with fail
        refine (HF2.out _ HX.out.1).mono ?_
        rintro e w3 ⟨rfl, hb3⟩
        have HB3 := Hd (Ai (onB' HX.out.1 hb3) (Ai (HX.out.2.1.below hb3) (HX.out.2.2.below hb3)))
        clear hb3 HF2 HX
        cases hfo : firstF (arE cs) ks with
        | some fo =>
          obtain ⟨er, nn⟩ := fo
          have HT2 := Hd hfo
          have hne : (er != 0) = true := by simpa using firstF_nz (fun x _ => arE_nz cs x) er nn hfo
          have hyf := (Below.refl w3.heap.size w3).alloc Nr (.cells #[.int .i64 er, .string (tx nn)] 43)
          have HBn := Hd (onB' HB3.out.1 hyf)
          have hbr := HB3.out.2.2.below hyf
          have r0 := hbr.1 0 _ rfl
          have r1 := hbr.1 1 _ rfl
          have t0 := hbr.2 0
          have t1 := hbr.2 1
          clear hbr hyf
          have ev : vF (some (er, nn)) = .agg #[.int .i64 er, .string (tx nn)] := rfl
          rw [ev]
          clear ev hfo
          go_wp2_with fail
          have v0 := (setTwo r0 r1 (.int .i64 er) (.string (tx nn))).1
          have v1 := (setTwo r0 r1 (.int .i64 er) (.string (tx nn))).2
          exact bodyPost_ret (v := .agg #[.int .i64 er, .string (tx nn)]) (by simp [results, Tryz.results69, go_sem, v0, v1]) rfl ⟨by rw [HE.out, HT.out, HT2.out]; rfl, below2 HBn.out (by omega) _ _⟩
        | none =>
          have HT2 := Hd hfo
          have hy := (Below.refl w3.heap.size w3).alloc Nr (.cells #[.int .i64 0, .string ⟨#[]⟩] 43)
          have HX := Hd (Ai (onB' HB3.out.1 hy) (Ai (HB3.out.2.1.below hy) (HB3.out.2.2.below hy)))
          have ev : vF none = .agg #[.int .i64 0, .string ⟨#[]⟩] := rfl
          rw [ev]
          clear ev hfo
          have q7 : (w3.alloc (.cells #[.int .i64 0, .string ⟨#[]⟩] 43)).cell? ⟨w.heap.size, 7, none⟩ = some (.slice aa al.length ca) := HX.out.2.1.1 7 _ rfl
          have y4 := later' HX.out.1 HA.out.l
          clear hy
          go_wp2_with fail
          refine (HF3.out _ HX.out.1).mono ?_
          rintro e w4 ⟨rfl, hb4⟩
          have HB4 := Hd (Ai (onB' HX.out.1 hb4) (HX.out.2.2.below hb4))
          clear hb4 HF3 HX
          have r0 := HB4.out.2.1 0 _ rfl
          have r1 := HB4.out.2.1 1 _ rfl
          have t0 := HB4.out.2.2 0
          have t1 := HB4.out.2.2 1
          have HE2 := Hd (show vF (arE cs (.mk 5 nm f u ps ks bl al)) = .agg #[.int .i64 (stN (firstF (arA cs) al)).1, .string (tx (stN (firstF (arA cs) al)).2)] by rw [HE.out, HT.out, HT2.out]; rfl)
          unfold vF
          generalize (stN (firstF (arA cs) al)).1 = er at *
          generalize (stN (firstF (arA cs) al)).2 = nn at *
          go_wp2_with fail
          have v0 := (setTwo r0 r1 (.int .i64 er) (.string (tx nn))).1
          have v1 := (setTwo r0 r1 (.int .i64 er) (.string (tx nn))).2
          exact bodyPost_ret (v := .agg #[.int .i64 er, .string (tx nn)]) (by simp [results, Tryz.results69, go_sem, v0, v1]) rfl ⟨by rw [← HE2.out], below2 HB4.out.1 (by omega) _ _⟩
  by_cases g4 : k = 4
  · have hH : arH cs k nm ps ks.length = oneF (decide (25 < ks.length)) 12 [] := by unfold arH; rw [if_neg g2, if_neg g5, if_pos g4]
    rw [hH] at HM
    have HP := Hd hp
    clear hH hA hp hk hb ha tk tb ta ht w3 w4 w5 w6 w7 hz
    subst g4
    have f2 : ((4 : Int) == 2) = false := rfl
    have f5 : ((4 : Int) == 5) = false := rfl
    by_cases g : (25 < ks.length)
    · have HE := Hd (show vF (arE cs (.mk 4 nm f u ps ks bl al)) = .agg #[.int .i64 12, .string (tx [])] by rw [HM.out]; unfold oneF; rw [if_pos (decide_eq_true g)]; rfl)
      have g' : (25 : Int) < (ks.length : Int) := by omega
      have hx1 := (Below.refl w.heap.size w).alloc Nr (.cells #[.int .i64 4, .string (tx nm), .bool f, .int .u64 u, .slice ap ps.length cp, .slice ak ks.length ck, .slice ab bl.length cb, .slice aa al.length ca] 57)
      have hB1 := (BoxW.alloc w #[.int .i64 4, .string (tx nm), .bool f, .int .u64 u, .slice ap ps.length cp, .slice ak ks.length ck, .slice ab bl.length cb, .slice aa al.length ca] 57).below (Br.alloc Nr (.cells #[.int .i64 0, .string ⟨#[]⟩] 43))
      have hx := hx1.alloc hx1.size (.cells #[.int .i64 0, .string ⟨#[]⟩] 43)
      have hB2 := BoxW.alloc (w.alloc (.cells #[.int .i64 4, .string (tx nm), .bool f, .int .u64 u, .slice ap ps.length cp, .slice ak ks.length ck, .slice ab bl.length cb, .slice aa al.length ca] 57)) #[.int .i64 0, .string ⟨#[]⟩] 43
      rw [show (w.alloc (.cells #[.int .i64 4, .string (tx nm), .bool f, .int .u64 u, .slice ap ps.length cp, .slice ak ks.length ck, .slice ab bl.length cb, .slice aa al.length ca] 57)).heap.size = w.heap.size + 1 by simp] at hB2
      have y0 := later' hx HA.out.a
      have y1 := later' hx HA.out.t
      have y2 := later' hx HA.out.b
      have y3 := later' hx HA.out.k
      have y4 := later' hx HA.out.l
      have hf := hx1.alloc hx1.size (.cells #[.int .i64 12, .string ⟨#[]⟩] 43)
      have hBf := BoxW.alloc (w.alloc (.cells #[.int .i64 4, .string (tx nm), .bool f, .int .u64 u, .slice ap ps.length cp, .slice ak ks.length ck, .slice ab bl.length cb, .slice aa al.length ca] 57)) #[.int .i64 12, .string ⟨#[]⟩] 43
      rw [show (w.alloc (.cells #[.int .i64 4, .string (tx nm), .bool f, .int .u64 u, .slice ap ps.length cp, .slice ak ks.length ck, .slice ab bl.length cb, .slice aa al.length ca] 57)).heap.size = w.heap.size + 1 by simp] at hBf
      have HX := Hd hf
      have v0 := hBf.1 0 _ rfl
      have v1 := hBf.1 1 _ rfl
      clear hf hBf
      clear HF1 HF2 HF3 hx hx1 hB1 hB2
      go_enter Tryz.func69, Tryz.ntmps69
      go_wp2_with fail
      exact bodyPost_ret (v := .agg #[.int .i64 12, .string ⟨#[]⟩]) (by simp [results, Tryz.results69, go_sem, v0, v1]) rfl ⟨by first | (rw [HE.out]; done) | (rw [HE.out]; rfl), HX.out⟩
    · have HE := Hd (show arE cs (.mk 4 nm f u ps ks bl al) = ((firstF (arB cs) bl).or ((firstF (arE cs) ks).or (firstF (arA cs) al))) by rw [HM.out]; unfold oneF; rw [if_neg (by simpa using g)]; rfl)
      have g' : ¬ (25 : Int) < (ks.length : Int) := by omega
      have hx1 := (Below.refl w.heap.size w).alloc Nr (.cells #[.int .i64 4, .string (tx nm), .bool f, .int .u64 u, .slice ap ps.length cp, .slice ak ks.length ck, .slice ab bl.length cb, .slice aa al.length ca] 57)
      have hB1 := (BoxW.alloc w #[.int .i64 4, .string (tx nm), .bool f, .int .u64 u, .slice ap ps.length cp, .slice ak ks.length ck, .slice ab bl.length cb, .slice aa al.length ca] 57).below (Br.alloc Nr (.cells #[.int .i64 0, .string ⟨#[]⟩] 43))
      have hx := hx1.alloc hx1.size (.cells #[.int .i64 0, .string ⟨#[]⟩] 43)
      have hB2 := BoxW.alloc (w.alloc (.cells #[.int .i64 4, .string (tx nm), .bool f, .int .u64 u, .slice ap ps.length cp, .slice ak ks.length ck, .slice ab bl.length cb, .slice aa al.length ca] 57)) #[.int .i64 0, .string ⟨#[]⟩] 43
      rw [show (w.alloc (.cells #[.int .i64 4, .string (tx nm), .bool f, .int .u64 u, .slice ap ps.length cp, .slice ak ks.length ck, .slice ab bl.length cb, .slice aa al.length ca] 57)).heap.size = w.heap.size + 1 by simp] at hB2
      have y0 := later' hx HA.out.a
      have y1 := later' hx HA.out.t
      have y2 := later' hx HA.out.b
      have y3 := later' hx HA.out.k
      have y4 := later' hx HA.out.l
      have HX := Hd (Ai hx (Ai hB1 hB2))
      clear hx hx1 hB1 hB2
      go_enter Tryz.func69, Tryz.ntmps69
      go_wp2_with fail
      refine (HF1.out _ HX.out.1).mono ?_
      rintro e w2 ⟨rfl, hb2⟩
      have HB2 := Hd (Ai (onB' HX.out.1 hb2) (Ai (HX.out.2.1.below hb2) (HX.out.2.2.below hb2)))
      clear hb2 HF1 HX
      cases hfo : firstF (arB cs) bl with
      | some fo =>
        obtain ⟨er, nn⟩ := fo
        have HT := Hd hfo
        have hne : (er != 0) = true := by simpa using firstF_nz (fun x _ => arB_nz cs x) er nn hfo
        have hyf := (Below.refl w2.heap.size w2).alloc Nr (.cells #[.int .i64 er, .string (tx nn)] 43)
        have HBn := Hd (onB' HB2.out.1 hyf)
        have hbr := HB2.out.2.2.below hyf
        have r0 := hbr.1 0 _ rfl
        have r1 := hbr.1 1 _ rfl
        have t0 := hbr.2 0
        have t1 := hbr.2 1
        clear hbr hyf
        have ev : vF (some (er, nn)) = .agg #[.int .i64 er, .string (tx nn)] := rfl
        rw [ev]
        clear ev hfo
        go_wp2_with fail
        have v0 := (setTwo r0 r1 (.int .i64 er) (.string (tx nn))).1
        have v1 := (setTwo r0 r1 (.int .i64 er) (.string (tx nn))).2
        exact bodyPost_ret (v := .agg #[.int .i64 er, .string (tx nn)]) (by simp [results, Tryz.results69, go_sem, v0, v1]) rfl ⟨by rw [HE.out, HT.out]; rfl, below2 HBn.out (by omega) _ _⟩
      | none =>
        have HT := Hd hfo
        have hy := (Below.refl w2.heap.size w2).alloc Nr (.cells #[.int .i64 0, .string ⟨#[]⟩] 43)
        have HX := Hd (Ai (onB' HB2.out.1 hy) (Ai (HB2.out.2.1.below hy) (HB2.out.2.2.below hy)))
        have ev : vF none = .agg #[.int .i64 0, .string ⟨#[]⟩] := rfl
        rw [ev]
        clear ev hfo
        have hz2 : (w2.alloc (.cells #[.int .i64 0, .string ⟨#[]⟩] 43)).heap.size = w2.heap.size + 1 := by simp
        have q4 : (w2.alloc (.cells #[.int .i64 0, .string ⟨#[]⟩] 43)).cell? ⟨w.heap.size, 4, none⟩ = some (.slice ap ps.length cp) := HX.out.2.1.1 4 _ rfl
        have q5 : (w2.alloc (.cells #[.int .i64 0, .string ⟨#[]⟩] 43)).cell? ⟨w.heap.size, 5, none⟩ = some (.slice ak ks.length ck) := HX.out.2.1.1 5 _ rfl
        have q6 : (w2.alloc (.cells #[.int .i64 0, .string ⟨#[]⟩] 43)).cell? ⟨w.heap.size, 6, none⟩ = some (.slice ab bl.length cb) := HX.out.2.1.1 6 _ rfl
        have q7 : (w2.alloc (.cells #[.int .i64 0, .string ⟨#[]⟩] 43)).cell? ⟨w.heap.size, 7, none⟩ = some (.slice aa al.length ca) := HX.out.2.1.1 7 _ rfl
        have y3 := later' HX.out.1 HA.out.k
        have y4 := later' HX.out.1 HA.out.l
        clear hy
        go_wp2_with fail
        refine (HF2.out _ HX.out.1).mono ?_
        rintro e w3 ⟨rfl, hb3⟩
        have HB3 := Hd (Ai (onB' HX.out.1 hb3) (Ai (HX.out.2.1.below hb3) (HX.out.2.2.below hb3)))
        clear hb3 HF2 HX
        cases hfo : firstF (arE cs) ks with
        | some fo =>
          obtain ⟨er, nn⟩ := fo
          have HT2 := Hd hfo
          have hne : (er != 0) = true := by simpa using firstF_nz (fun x _ => arE_nz cs x) er nn hfo
          have hyf := (Below.refl w3.heap.size w3).alloc Nr (.cells #[.int .i64 er, .string (tx nn)] 43)
          have HBn := Hd (onB' HB3.out.1 hyf)
          have hbr := HB3.out.2.2.below hyf
          have r0 := hbr.1 0 _ rfl
          have r1 := hbr.1 1 _ rfl
          have t0 := hbr.2 0
          have t1 := hbr.2 1
          clear hbr hyf
          have ev : vF (some (er, nn)) = .agg #[.int .i64 er, .string (tx nn)] := rfl
          rw [ev]
          clear ev hfo
          go_wp2_with fail
          have v0 := (setTwo r0 r1 (.int .i64 er) (.string (tx nn))).1
          have v1 := (setTwo r0 r1 (.int .i64 er) (.string (tx nn))).2
          exact bodyPost_ret (v := .agg #[.int .i64 er, .string (tx nn)]) (by simp [results, Tryz.results69, go_sem, v0, v1]) rfl ⟨by rw [HE.out, HT.out, HT2.out]; rfl, below2 HBn.out (by omega) _ _⟩
        | none =>
          have HT2 := Hd hfo
          have hy := (Below.refl w3.heap.size w3).alloc Nr (.cells #[.int .i64 0, .string ⟨#[]⟩] 43)
          have HX := Hd (Ai (onB' HB3.out.1 hy) (Ai (HB3.out.2.1.below hy) (HB3.out.2.2.below hy)))
          have ev : vF none = .agg #[.int .i64 0, .string ⟨#[]⟩] := rfl
          rw [ev]
          clear ev hfo
          have q7 : (w3.alloc (.cells #[.int .i64 0, .string ⟨#[]⟩] 43)).cell? ⟨w.heap.size, 7, none⟩ = some (.slice aa al.length ca) := HX.out.2.1.1 7 _ rfl
          have y4 := later' HX.out.1 HA.out.l
          clear hy
          go_wp2_with fail
          refine (HF3.out _ HX.out.1).mono ?_
          rintro e w4 ⟨rfl, hb4⟩
          have HB4 := Hd (Ai (onB' HX.out.1 hb4) (HX.out.2.2.below hb4))
          clear hb4 HF3 HX
          have r0 := HB4.out.2.1 0 _ rfl
          have r1 := HB4.out.2.1 1 _ rfl
          have t0 := HB4.out.2.2 0
          have t1 := HB4.out.2.2 1
          have HE2 := Hd (show vF (arE cs (.mk 4 nm f u ps ks bl al)) = .agg #[.int .i64 (stN (firstF (arA cs) al)).1, .string (tx (stN (firstF (arA cs) al)).2)] by rw [HE.out, HT.out, HT2.out]; rfl)
          unfold vF
          generalize (stN (firstF (arA cs) al)).1 = er at *
          generalize (stN (firstF (arA cs) al)).2 = nn at *
          go_wp2_with fail
          have v0 := (setTwo r0 r1 (.int .i64 er) (.string (tx nn))).1
          have v1 := (setTwo r0 r1 (.int .i64 er) (.string (tx nn))).2
          exact bodyPost_ret (v := .agg #[.int .i64 er, .string (tx nn)]) (by simp [results, Tryz.results69, go_sem, v0, v1]) rfl ⟨by rw [← HE2.out], below2 HB4.out.1 (by omega) _ _⟩
  by_cases g8 : k = 8
  · have hH : arH cs k nm ps ks.length = oneF (decide (24 < ps.length)) 12 (ps.headD []) := by unfold arH; rw [if_neg g2, if_neg g5, if_neg g4, if_pos g8]
    rw [hH] at HM
    have HP := Hd hp
    clear hH hA hp hk hb ha tk tb ta ht w3 w4 w5 w6 w7 hz
    subst g8
    have f2 : ((8 : Int) == 2) = false := rfl
    have f5 : ((8 : Int) == 5) = false := rfl
    have f4 : ((8 : Int) == 4) = false := rfl
    by_cases g : (24 < ps.length)
    · have HE := Hd (show vF (arE cs (.mk 8 nm f u ps ks bl al)) = .agg #[.int .i64 12, .string (tx (ps.headD []))] by rw [HM.out]; unfold oneF; rw [if_pos (decide_eq_true g)]; rfl)
      have g' : (24 : Int) < (ps.length : Int) := by omega
      obtain ⟨gp, op, hap, hcp1, hcp2, -, htp⟩ := HP.out.at (by omega)
      obtain ⟨p0, hp0, hz0⟩ : ∃ p0, ps.headD [] = p0 ∧ (namesV ps)[0]? = some (.string (tx p0)) := by
        cases ps with
        | nil => exact absurd g (by decide)
        | cons p0 pr => exact ⟨p0, rfl, rfl⟩
      rw [hp0] at HE
      have hx1 := (Below.refl w.heap.size w).alloc Nr (.cells #[.int .i64 8, .string (tx nm), .bool f, .int .u64 u, .slice ap ps.length cp, .slice ak ks.length ck, .slice ab bl.length cb, .slice aa al.length ca] 57)
      have hB1 := (BoxW.alloc w #[.int .i64 8, .string (tx nm), .bool f, .int .u64 u, .slice ap ps.length cp, .slice ak ks.length ck, .slice ab bl.length cb, .slice aa al.length ca] 57).below (Br.alloc Nr (.cells #[.int .i64 0, .string ⟨#[]⟩] 43))
      have hx := hx1.alloc hx1.size (.cells #[.int .i64 0, .string ⟨#[]⟩] 43)
      have hB2 := BoxW.alloc (w.alloc (.cells #[.int .i64 8, .string (tx nm), .bool f, .int .u64 u, .slice ap ps.length cp, .slice ak ks.length ck, .slice ab bl.length cb, .slice aa al.length ca] 57)) #[.int .i64 0, .string ⟨#[]⟩] 43
      rw [show (w.alloc (.cells #[.int .i64 8, .string (tx nm), .bool f, .int .u64 u, .slice ap ps.length cp, .slice ak ks.length ck, .slice ab bl.length cb, .slice aa al.length ca] 57)).heap.size = w.heap.size + 1 by simp] at hB2
      have y0 := later' hx HA.out.a
      have y1 := later' hx HA.out.t
      have y2 := later' hx HA.out.b
      have y3 := later' hx HA.out.k
      have y4 := later' hx HA.out.l
      have hf := hx1.alloc hx1.size (.cells #[.int .i64 12, .string (tx p0)] 43)
      have hBf := BoxW.alloc (w.alloc (.cells #[.int .i64 8, .string (tx nm), .bool f, .int .u64 u, .slice ap ps.length cp, .slice ak ks.length ck, .slice ab bl.length cb, .slice aa al.length ca] 57)) #[.int .i64 12, .string (tx p0)] 43
      rw [show (w.alloc (.cells #[.int .i64 8, .string (tx nm), .bool f, .int .u64 u, .slice ap ps.length cp, .slice ak ks.length ck, .slice ab bl.length cb, .slice aa al.length ca] 57)).heap.size = w.heap.size + 1 by simp] at hBf
      have HX := Hd hf
      have v0 := hBf.1 0 _ rfl
      have v1 := hBf.1 1 _ rfl
      clear hf hBf
      have z0 := later' hx (htp 0 (.string (tx p0)) hz0)
      rw [Nat.add_zero] at z0
      subst hap
      clear HF1 HF2 HF3 hx hx1 hB1 hB2
      go_enter Tryz.func69, Tryz.ntmps69
      go_wp2_with fail
      exact bodyPost_ret (v := .agg #[.int .i64 12, .string (tx p0)]) (by simp [results, Tryz.results69, go_sem, v0, v1]) rfl ⟨by first | (rw [HE.out]; done) | (rw [HE.out]; rfl), HX.out⟩
    · have HE := Hd (show arE cs (.mk 8 nm f u ps ks bl al) = ((firstF (arB cs) bl).or ((firstF (arE cs) ks).or (firstF (arA cs) al))) by rw [HM.out]; unfold oneF; rw [if_neg (by simpa using g)]; rfl)
      have g' : ¬ (24 : Int) < (ps.length : Int) := by omega
      have hx1 := (Below.refl w.heap.size w).alloc Nr (.cells #[.int .i64 8, .string (tx nm), .bool f, .int .u64 u, .slice ap ps.length cp, .slice ak ks.length ck, .slice ab bl.length cb, .slice aa al.length ca] 57)
      have hB1 := (BoxW.alloc w #[.int .i64 8, .string (tx nm), .bool f, .int .u64 u, .slice ap ps.length cp, .slice ak ks.length ck, .slice ab bl.length cb, .slice aa al.length ca] 57).below (Br.alloc Nr (.cells #[.int .i64 0, .string ⟨#[]⟩] 43))
      have hx := hx1.alloc hx1.size (.cells #[.int .i64 0, .string ⟨#[]⟩] 43)
      have hB2 := BoxW.alloc (w.alloc (.cells #[.int .i64 8, .string (tx nm), .bool f, .int .u64 u, .slice ap ps.length cp, .slice ak ks.length ck, .slice ab bl.length cb, .slice aa al.length ca] 57)) #[.int .i64 0, .string ⟨#[]⟩] 43
      rw [show (w.alloc (.cells #[.int .i64 8, .string (tx nm), .bool f, .int .u64 u, .slice ap ps.length cp, .slice ak ks.length ck, .slice ab bl.length cb, .slice aa al.length ca] 57)).heap.size = w.heap.size + 1 by simp] at hB2
      have y0 := later' hx HA.out.a
      have y1 := later' hx HA.out.t
      have y2 := later' hx HA.out.b
      have y3 := later' hx HA.out.k
      have y4 := later' hx HA.out.l
      have HX := Hd (Ai hx (Ai hB1 hB2))
      clear hx hx1 hB1 hB2
      go_enter Tryz.func69, Tryz.ntmps69
      go_wp2_with fail
      refine (HF1.out _ HX.out.1).mono ?_
      rintro e w2 ⟨rfl, hb2⟩
      have HB2 := Hd (Ai (onB' HX.out.1 hb2) (Ai (HX.out.2.1.below hb2) (HX.out.2.2.below hb2)))
      clear hb2 HF1 HX
      cases hfo : firstF (arB cs) bl with
      | some fo =>
        obtain ⟨er, nn⟩ := fo
        have HT := Hd hfo
        have hne : (er != 0) = true := by simpa using firstF_nz (fun x _ => arB_nz cs x) er nn hfo
        have hyf := (Below.refl w2.heap.size w2).alloc Nr (.cells #[.int .i64 er, .string (tx nn)] 43)
        have HBn := Hd (onB' HB2.out.1 hyf)
        have hbr := HB2.out.2.2.below hyf
        have r0 := hbr.1 0 _ rfl
        have r1 := hbr.1 1 _ rfl
        have t0 := hbr.2 0
        have t1 := hbr.2 1
        clear hbr hyf
        have ev : vF (some (er, nn)) = .agg #[.int .i64 er, .string (tx nn)] := rfl
        rw [ev]
        clear ev hfo
        go_wp2_with fail
        have v0 := (setTwo r0 r1 (.int .i64 er) (.string (tx nn))).1
        have v1 := (setTwo r0 r1 (.int .i64 er) (.string (tx nn))).2
        exact bodyPost_ret (v := .agg #[.int .i64 er, .string (tx nn)]) (by simp [results, Tryz.results69, go_sem, v0, v1]) rfl ⟨by rw [HE.out, HT.out]; rfl, below2 HBn.out (by omega) _ _⟩
      | none =>
        have HT := Hd hfo
        have hy := (Below.refl w2.heap.size w2).alloc Nr (.cells #[.int .i64 0, .string ⟨#[]⟩] 43)
        have HX := Hd (Ai (onB' HB2.out.1 hy) (Ai (HB2.out.2.1.below hy) (HB2.out.2.2.below hy)))
        have ev : vF none = .agg #[.int .i64 0, .string ⟨#[]⟩] := rfl
        rw [ev]
        clear ev hfo
        have hz2 : (w2.alloc (.cells #[.int .i64 0, .string ⟨#[]⟩] 43)).heap.size = w2.heap.size + 1 := by simp
        have q4 : (w2.alloc (.cells #[.int .i64 0, .string ⟨#[]⟩] 43)).cell? ⟨w.heap.size, 4, none⟩ = some (.slice ap ps.length cp) := HX.out.2.1.1 4 _ rfl
        have q5 : (w2.alloc (.cells #[.int .i64 0, .string ⟨#[]⟩] 43)).cell? ⟨w.heap.size, 5, none⟩ = some (.slice ak ks.length ck) := HX.out.2.1.1 5 _ rfl
        have q6 : (w2.alloc (.cells #[.int .i64 0, .string ⟨#[]⟩] 43)).cell? ⟨w.heap.size, 6, none⟩ = some (.slice ab bl.length cb) := HX.out.2.1.1 6 _ rfl
        have q7 : (w2.alloc (.cells #[.int .i64 0, .string ⟨#[]⟩] 43)).cell? ⟨w.heap.size, 7, none⟩ = some (.slice aa al.length ca) := HX.out.2.1.1 7 _ rfl
        have y3 := later' HX.out.1 HA.out.k
        have y4 := later' HX.out.1 HA.out.l
        clear hy
        go_wp2_with fail
        refine (HF2.out _ HX.out.1).mono ?_
        rintro e w3 ⟨rfl, hb3⟩
        have HB3 := Hd (Ai (onB' HX.out.1 hb3) (Ai (HX.out.2.1.below hb3) (HX.out.2.2.below hb3)))
        clear hb3 HF2 HX
        cases hfo : firstF (arE cs) ks with
        | some fo =>
          obtain ⟨er, nn⟩ := fo
          have HT2 := Hd hfo
          have hne : (er != 0) = true := by simpa using firstF_nz (fun x _ => arE_nz cs x) er nn hfo
          have hyf := (Below.refl w3.heap.size w3).alloc Nr (.cells #[.int .i64 er, .string (tx nn)] 43)
          have HBn := Hd (onB' HB3.out.1 hyf)
          have hbr := HB3.out.2.2.below hyf
          have r0 := hbr.1 0 _ rfl
          have r1 := hbr.1 1 _ rfl
          have t0 := hbr.2 0
          have t1 := hbr.2 1
          clear hbr hyf
          have ev : vF (some (er, nn)) = .agg #[.int .i64 er, .string (tx nn)] := rfl
          rw [ev]
          clear ev hfo
          go_wp2_with fail
          have v0 := (setTwo r0 r1 (.int .i64 er) (.string (tx nn))).1
          have v1 := (setTwo r0 r1 (.int .i64 er) (.string (tx nn))).2
          exact bodyPost_ret (v := .agg #[.int .i64 er, .string (tx nn)]) (by simp [results, Tryz.results69, go_sem, v0, v1]) rfl ⟨by rw [HE.out, HT.out, HT2.out]; rfl, below2 HBn.out (by omega) _ _⟩
        | none =>
          have HT2 := Hd hfo
          have hy := (Below.refl w3.heap.size w3).alloc Nr (.cells #[.int .i64 0, .string ⟨#[]⟩] 43)
          have HX := Hd (Ai (onB' HB3.out.1 hy) (Ai (HB3.out.2.1.below hy) (HB3.out.2.2.below hy)))
          have ev : vF none = .agg #[.int .i64 0, .string ⟨#[]⟩] := rfl
          rw [ev]
          clear ev hfo
          have q7 : (w3.alloc (.cells #[.int .i64 0, .string ⟨#[]⟩] 43)).cell? ⟨w.heap.size, 7, none⟩ = some (.slice aa al.length ca) := HX.out.2.1.1 7 _ rfl
          have y4 := later' HX.out.1 HA.out.l
          clear hy
          go_wp2_with fail
          refine (HF3.out _ HX.out.1).mono ?_
          rintro e w4 ⟨rfl, hb4⟩
          have HB4 := Hd (Ai (onB' HX.out.1 hb4) (HX.out.2.2.below hb4))
          clear hb4 HF3 HX
          have r0 := HB4.out.2.1 0 _ rfl
          have r1 := HB4.out.2.1 1 _ rfl
          have t0 := HB4.out.2.2 0
          have t1 := HB4.out.2.2 1
          have HE2 := Hd (show vF (arE cs (.mk 8 nm f u ps ks bl al)) = .agg #[.int .i64 (stN (firstF (arA cs) al)).1, .string (tx (stN (firstF (arA cs) al)).2)] by rw [HE.out, HT.out, HT2.out]; rfl)
          unfold vF
          generalize (stN (firstF (arA cs) al)).1 = er at *
          generalize (stN (firstF (arA cs) al)).2 = nn at *
          go_wp2_with fail
          have v0 := (setTwo r0 r1 (.int .i64 er) (.string (tx nn))).1
          have v1 := (setTwo r0 r1 (.int .i64 er) (.string (tx nn))).2
          exact bodyPost_ret (v := .agg #[.int .i64 er, .string (tx nn)]) (by simp [results, Tryz.results69, go_sem, v0, v1]) rfl ⟨by rw [← HE2.out], below2 HB4.out.1 (by omega) _ _⟩
  · have hH : arH cs k nm ps ks.length = none := by unfold arH; rw [if_neg g2, if_neg g5, if_neg g4, if_neg g8]
    rw [hH] at HM
    clear hH hA hp hk hb ha tk tb ta ht w3 w4 w5 w6 w7 hz
    have HE := Hd (show arE cs (.mk k nm f u ps ks bl al) = ((firstF (arB cs) bl).or ((firstF (arE cs) ks).or (firstF (arA cs) al))) by rw [HM.out]; rfl)
    have f2 : (k == 2) = false := by simpa using g2
    have f5 : (k == 5) = false := by simpa using g5
    have f4 : (k == 4) = false := by simpa using g4
    have f8 : (k == 8) = false := by simpa using g8
    have hx1 := (Below.refl w.heap.size w).alloc Nr (.cells #[.int .i64 k, .string (tx nm), .bool f, .int .u64 u, .slice ap ps.length cp, .slice ak ks.length ck, .slice ab bl.length cb, .slice aa al.length ca] 57)
    have hB1 := (BoxW.alloc w #[.int .i64 k, .string (tx nm), .bool f, .int .u64 u, .slice ap ps.length cp, .slice ak ks.length ck, .slice ab bl.length cb, .slice aa al.length ca] 57).below (Br.alloc Nr (.cells #[.int .i64 0, .string ⟨#[]⟩] 43))
    have hx := hx1.alloc hx1.size (.cells #[.int .i64 0, .string ⟨#[]⟩] 43)
    have hB2 := BoxW.alloc (w.alloc (.cells #[.int .i64 k, .string (tx nm), .bool f, .int .u64 u, .slice ap ps.length cp, .slice ak ks.length ck, .slice ab bl.length cb, .slice aa al.length ca] 57)) #[.int .i64 0, .string ⟨#[]⟩] 43
    rw [show (w.alloc (.cells #[.int .i64 k, .string (tx nm), .bool f, .int .u64 u, .slice ap ps.length cp, .slice ak ks.length ck, .slice ab bl.length cb, .slice aa al.length ca] 57)).heap.size = w.heap.size + 1 by simp] at hB2
    have y0 := later' hx HA.out.a
    have y1 := later' hx HA.out.t
    have y2 := later' hx HA.out.b
    have y3 := later' hx HA.out.k
    have y4 := later' hx HA.out.l
    have HX := Hd (Ai hx (Ai hB1 hB2))
    clear hx hx1 hB1 hB2
    go_enter Tryz.func69, Tryz.ntmps69
    go_wp2_with fail
    refine (HF1.out _ HX.out.1).mono ?_
    rintro e w2 ⟨rfl, hb2⟩
    have HB2 := Hd (Ai (onB' HX.out.1 hb2) (Ai (HX.out.2.1.below hb2) (HX.out.2.2.below hb2)))
    clear hb2 HF1 HX
    cases hfo : firstF (arB cs) bl with
    | some fo =>
      obtain ⟨er, nn⟩ := fo
      have HT := Hd hfo
      have hne : (er != 0) = true := by simpa using firstF_nz (fun x _ => arB_nz cs x) er nn hfo
      have hyf := (Below.refl w2.heap.size w2).alloc Nr (.cells #[.int .i64 er, .string (tx nn)] 43)
      have HBn := Hd (onB' HB2.out.1 hyf)
      have hbr := HB2.out.2.2.below hyf
      have r0 := hbr.1 0 _ rfl
      have r1 := hbr.1 1 _ rfl
      have t0 := hbr.2 0
      have t1 := hbr.2 1
      clear hbr hyf
      have ev : vF (some (er, nn)) = .agg #[.int .i64 er, .string (tx nn)] := rfl
      rw [ev]
      clear ev hfo
      go_wp2_with fail
      have v0 := (setTwo r0 r1 (.int .i64 er) (.string (tx nn))).1
      have v1 := (setTwo r0 r1 (.int .i64 er) (.string (tx nn))).2
      exact bodyPost_ret (v := .agg #[.int .i64 er, .string (tx nn)]) (by simp [results, Tryz.results69, go_sem, v0, v1]) rfl ⟨by rw [HE.out, HT.out]; rfl, below2 HBn.out (by omega) _ _⟩
    | none =>
      have HT := Hd hfo
      have hy := (Below.refl w2.heap.size w2).alloc Nr (.cells #[.int .i64 0, .string ⟨#[]⟩] 43)
      have HX := Hd (Ai (onB' HB2.out.1 hy) (Ai (HB2.out.2.1.below hy) (HB2.out.2.2.below hy)))
      have ev : vF none = .agg #[.int .i64 0, .string ⟨#[]⟩] := rfl
      rw [ev]
      clear ev hfo
      have hz2 : (w2.alloc (.cells #[.int .i64 0, .string ⟨#[]⟩] 43)).heap.size = w2.heap.size + 1 := by simp
      have q4 : (w2.alloc (.cells #[.int .i64 0, .string ⟨#[]⟩] 43)).cell? ⟨w.heap.size, 4, none⟩ = some (.slice ap ps.length cp) := HX.out.2.1.1 4 _ rfl
      have q5 : (w2.alloc (.cells #[.int .i64 0, .string ⟨#[]⟩] 43)).cell? ⟨w.heap.size, 5, none⟩ = some (.slice ak ks.length ck) := HX.out.2.1.1 5 _ rfl
      have q6 : (w2.alloc (.cells #[.int .i64 0, .string ⟨#[]⟩] 43)).cell? ⟨w.heap.size, 6, none⟩ = some (.slice ab bl.length cb) := HX.out.2.1.1 6 _ rfl
      have q7 : (w2.alloc (.cells #[.int .i64 0, .string ⟨#[]⟩] 43)).cell? ⟨w.heap.size, 7, none⟩ = some (.slice aa al.length ca) := HX.out.2.1.1 7 _ rfl
      have y3 := later' HX.out.1 HA.out.k
      have y4 := later' HX.out.1 HA.out.l
      clear hy
      go_wp2_with fail
      refine (HF2.out _ HX.out.1).mono ?_
      rintro e w3 ⟨rfl, hb3⟩
      have HB3 := Hd (Ai (onB' HX.out.1 hb3) (Ai (HX.out.2.1.below hb3) (HX.out.2.2.below hb3)))
      clear hb3 HF2 HX
      cases hfo : firstF (arE cs) ks with
      | some fo =>
        obtain ⟨er, nn⟩ := fo
        have HT2 := Hd hfo
        have hne : (er != 0) = true := by simpa using firstF_nz (fun x _ => arE_nz cs x) er nn hfo
        have hyf := (Below.refl w3.heap.size w3).alloc Nr (.cells #[.int .i64 er, .string (tx nn)] 43)
        have HBn := Hd (onB' HB3.out.1 hyf)
        have hbr := HB3.out.2.2.below hyf
        have r0 := hbr.1 0 _ rfl
        have r1 := hbr.1 1 _ rfl
        have t0 := hbr.2 0
        have t1 := hbr.2 1
        clear hbr hyf
        have ev : vF (some (er, nn)) = .agg #[.int .i64 er, .string (tx nn)] := rfl
        rw [ev]
        clear ev hfo
        go_wp2_with fail
        have v0 := (setTwo r0 r1 (.int .i64 er) (.string (tx nn))).1
        have v1 := (setTwo r0 r1 (.int .i64 er) (.string (tx nn))).2
        exact bodyPost_ret (v := .agg #[.int .i64 er, .string (tx nn)]) (by simp [results, Tryz.results69, go_sem, v0, v1]) rfl ⟨by rw [HE.out, HT.out, HT2.out]; rfl, below2 HBn.out (by omega) _ _⟩
      | none =>
        have HT2 := Hd hfo
        have hy := (Below.refl w3.heap.size w3).alloc Nr (.cells #[.int .i64 0, .string ⟨#[]⟩] 43)
        have HX := Hd (Ai (onB' HB3.out.1 hy) (Ai (HB3.out.2.1.below hy) (HB3.out.2.2.below hy)))
        have ev : vF none = .agg #[.int .i64 0, .string ⟨#[]⟩] := rfl
        rw [ev]
        clear ev hfo
        have q7 : (w3.alloc (.cells #[.int .i64 0, .string ⟨#[]⟩] 43)).cell? ⟨w.heap.size, 7, none⟩ = some (.slice aa al.length ca) := HX.out.2.1.1 7 _ rfl
        have y4 := later' HX.out.1 HA.out.l
        clear hy
        go_wp2_with fail
        refine (HF3.out _ HX.out.1).mono ?_
        rintro e w4 ⟨rfl, hb4⟩
        have HB4 := Hd (Ai (onB' HX.out.1 hb4) (HX.out.2.2.below hb4))
        clear hb4 HF3 HX
        have r0 := HB4.out.2.1 0 _ rfl
        have r1 := HB4.out.2.1 1 _ rfl
        have t0 := HB4.out.2.2 0
        have t1 := HB4.out.2.2 1
        have HE2 := Hd (show vF (arE cs (.mk k nm f u ps ks bl al)) = .agg #[.int .i64 (stN (firstF (arA cs) al)).1, .string (tx (stN (firstF (arA cs) al)).2)] by rw [HE.out, HT.out, HT2.out]; rfl)
        unfold vF
        generalize (stN (firstF (arA cs) al)).1 = er at *
        generalize (stN (firstF (arA cs) al)).2 = nn at *
        go_wp2_with fail
        have v0 := (setTwo r0 r1 (.int .i64 er) (.string (tx nn))).1
        have v1 := (setTwo r0 r1 (.int .i64 er) (.string (tx nn))).2
        exact bodyPost_ret (v := .agg #[.int .i64 er, .string (tx nn)]) (by simp [results, Tryz.results69, go_sem, v0, v1]) rfl ⟨by rw [← HE2.out], below2 HB4.out.1 (by omega) _ _⟩
theorem ask_all (ga gt gb gk gl ma ma2 mt mt2 : Nat) (cs : List (Nm × Int)) : ∀ n, AskC ga gt gb gk gl ma ma2 mt mt2 cs n
  | 0 => by
    intro x K W k nm f u ap np cp ak nk ck ab nb cb aa na ca hz
    obtain ⟨k, n, f, x, ps, ks, bs, al⟩ := x
    simp only [Ex.mk.sizeOf_spec] at hz
    omega
  | n + 1 => ask_step ga gt gb gk gl ma ma2 mt mt2 cs n (ask_all ga gt gb gk gl ma ma2 mt mt2 cs n)
def takesM : Nm → Int := (aput (aput (aput (aput (aput (aput (aput (aput (aput (aput (aput (aput (aput (aput (aput (aput (aput (aput (fun _ => 0) [119, 101, 97, 107] 3) [115, 101, 113] 2) [100, 101, 114, 101, 102] 1) [102, 108, 111, 97, 116] 1) [116, 114, 117, 110, 99] 1) [43] 2) [45] 2) [42] 2) [47] 2) [37] 2) [61, 61] 2) [60] 2) [43, 46] 2) [45, 46] 2) [42, 46] 2) [47, 46] 2) [61, 61, 46] 2) [60, 46] 2)
theorem takesM_eq : ∀ x, takesM x = takesL x := by
  intro x
  unfold takesM takesL aput
  by_cases h0 : x = [119, 101, 97, 107]
  · subst h0; decide
  by_cases h1 : x = [115, 101, 113]
  · subst h1; decide
  by_cases h2 : x = [100, 101, 114, 101, 102]
  · subst h2; decide
  by_cases h3 : x = [102, 108, 111, 97, 116]
  · subst h3; decide
  by_cases h4 : x = [116, 114, 117, 110, 99]
  · subst h4; decide
  by_cases h5 : x = [43]
  · subst h5; decide
  by_cases h6 : x = [45]
  · subst h6; decide
  by_cases h7 : x = [42]
  · subst h7; decide
  by_cases h8 : x = [47]
  · subst h8; decide
  by_cases h9 : x = [37]
  · subst h9; decide
  by_cases h10 : x = [61, 61]
  · subst h10; decide
  by_cases h11 : x = [60]
  · subst h11; decide
  by_cases h12 : x = [43, 46]
  · subst h12; decide
  by_cases h13 : x = [45, 46]
  · subst h13; decide
  by_cases h14 : x = [42, 46]
  · subst h14; decide
  by_cases h15 : x = [47, 46]
  · subst h15; decide
  by_cases h16 : x = [61, 61, 46]
  · subst h16; decide
  by_cases h17 : x = [60, 46]
  · subst h17; decide
  simp only [h0, h1, h2, h3, h4, h5, h6, h7, h8, h9, h10, h11, h12, h13, h14, h15, h16, h17, if_false, or_false]
theorem list_entry {w0 : World} {m : Nat} (hm0 : w0.heap.size ≤ m) {ops : Array Oper} {rest : List Oper} {o : Oper} {a : Act} {Q : Exit → Act → World → Prop} (w : World) (hg : o.guard = none) (mo x v : Operand) (hop : o.op = Op.insert 36 mo x v)
    (n : Nat) (f : Nm → Int) (hm : a.eval mo = .map (some m)) (h : AMap w m n f ∧ Below w0.heap.size w0 w) (hn : n < 1000000) (k : Nm) (hk : k.length ≤ 100000) (u : Int) (hx : a.eval x = .string (tx k)) (hv : a.eval v = .int .i64 u) (hu : (Lit.int .i64 u).wf = true)
    (hK : ∀ w', (AMap w' m (n + 1) (aput f k u) ∧ Below w0.heap.size w0 w') → wpList Tryz.prog ops Q rest (a.put o.dst undef) w') : wpList Tryz.prog ops Q (o :: rest) a w :=
  list_aput w hg mo x v (Or.inr hop) m n f hm h.1 hn k hk u hx hv hu fun w' h1 h2 => hK w' ⟨h1, below_of_new h.2 h2 hm0⟩
theorem taken_any (w : World) : Calls Tryz.prog 10 #[] w fun e w' => e = .returned (.map (some w.heap.size)) ∧ AMap w' w.heap.size 18 takesL ∧ Below w.heap.size w w' := by
  have hmm := @run_makeMap Tryz.prog
  have h0 : AMap (w.alloc (.map #[] 0)) w.heap.size 0 (fun _ => 0) ∧ Below w.heap.size w (w.alloc (.map #[] 0)) := ⟨amap_made w, Br.alloc Nr _⟩
  have hT := Hd takesM_eq
  go_enter Tryz.func10, Tryz.ntmps10
  go_wp2_with (first
    | (refine list_entry Nr _ rfl _ _ _ rfl 0 _ rfl h0 (by decide) [119, 101, 97, 107] (by decide) 3 rfl rfl (by decide) ?_; clear h0; intro w0 h1)
    | (refine list_entry Nr _ rfl _ _ _ rfl 1 _ rfl h1 (by decide) [115, 101, 113] (by decide) 2 rfl rfl (by decide) ?_; clear h1; intro w1 h2)
    | (refine list_entry Nr _ rfl _ _ _ rfl 2 _ rfl h2 (by decide) [100, 101, 114, 101, 102] (by decide) 1 rfl rfl (by decide) ?_; clear h2; intro w2 h3)
    | (refine list_entry Nr _ rfl _ _ _ rfl 3 _ rfl h3 (by decide) [102, 108, 111, 97, 116] (by decide) 1 rfl rfl (by decide) ?_; clear h3; intro w3 h4)
    | (refine list_entry Nr _ rfl _ _ _ rfl 4 _ rfl h4 (by decide) [116, 114, 117, 110, 99] (by decide) 1 rfl rfl (by decide) ?_; clear h4; intro w4 h5)
    | (refine list_entry Nr _ rfl _ _ _ rfl 5 _ rfl h5 (by decide) [43] (by decide) 2 rfl rfl (by decide) ?_; clear h5; intro w5 h6)
    | (refine list_entry Nr _ rfl _ _ _ rfl 6 _ rfl h6 (by decide) [45] (by decide) 2 rfl rfl (by decide) ?_; clear h6; intro w6 h7)
    | (refine list_entry Nr _ rfl _ _ _ rfl 7 _ rfl h7 (by decide) [42] (by decide) 2 rfl rfl (by decide) ?_; clear h7; intro w7 h8)
    | (refine list_entry Nr _ rfl _ _ _ rfl 8 _ rfl h8 (by decide) [47] (by decide) 2 rfl rfl (by decide) ?_; clear h8; intro w8 h9)
    | (refine list_entry Nr _ rfl _ _ _ rfl 9 _ rfl h9 (by decide) [37] (by decide) 2 rfl rfl (by decide) ?_; clear h9; intro w9 h10)
    | (refine list_entry Nr _ rfl _ _ _ rfl 10 _ rfl h10 (by decide) [61, 61] (by decide) 2 rfl rfl (by decide) ?_; clear h10; intro w10 h11)
    | (refine list_entry Nr _ rfl _ _ _ rfl 11 _ rfl h11 (by decide) [60] (by decide) 2 rfl rfl (by decide) ?_; clear h11; intro w11 h12)
    | (refine list_entry Nr _ rfl _ _ _ rfl 12 _ rfl h12 (by decide) [43, 46] (by decide) 2 rfl rfl (by decide) ?_; clear h12; intro w12 h13)
    | (refine list_entry Nr _ rfl _ _ _ rfl 13 _ rfl h13 (by decide) [45, 46] (by decide) 2 rfl rfl (by decide) ?_; clear h13; intro w13 h14)
    | (refine list_entry Nr _ rfl _ _ _ rfl 14 _ rfl h14 (by decide) [42, 46] (by decide) 2 rfl rfl (by decide) ?_; clear h14; intro w14 h15)
    | (refine list_entry Nr _ rfl _ _ _ rfl 15 _ rfl h15 (by decide) [47, 46] (by decide) 2 rfl rfl (by decide) ?_; clear h15; intro w15 h16)
    | (refine list_entry Nr _ rfl _ _ _ rfl 16 _ rfl h16 (by decide) [61, 61, 46] (by decide) 2 rfl rfl (by decide) ?_; clear h16; intro w16 h17)
    | (refine list_entry Nr _ rfl _ _ _ rfl 17 _ rfl h17 (by decide) [60, 46] (by decide) 2 rfl rfl (by decide) ?_; clear h17; intro w17 h18))
  go_ret
  exact ⟨rfl, h18.1.to hT.out, h18.2⟩
theorem takes_any (x : Nm) (hx : x.length ≤ 100000) (w : World) : Calls Tryz.prog 5 #[.string (tx x)] w fun e w' => e = .returned (.int .i64 (takesL x)) ∧ Below w.heap.size w w' := by
  have HT := Hd (taken_any w)
  go_enter Tryz.func5, Tryz.ntmps5
  go_wp2_with fail
  refine HT.out.mono ?_
  rintro e w2 ⟨rfl, hm, hb⟩
  have hl := hm.look x hx
  have HB := Hd hb
  clear hm hb HT
  go_wp2_with fail
  go_ret
  exact ⟨rfl, HB.out⟩
end Go.Proofs.YtdjcdecbmeickaaGreatDoor
