import Derived.Test.YtbnmmbjajheedaaGreatDoorMg5
namespace Go.Proofs.YtbnmmbjajheedaaGreatDoor
set_option maxHeartbeats 64000000
set_option maxRecDepth 100000
open Go.RowKit Go.Lib
def bodyO (n d : Nat) : Par Ex := fun last rest =>
 if shapeL rest = sLet then letO (exprO n d) last rest
 else if shapeL rest = sCase then caseO (exprO n d) last rest
 else if shapeL rest = sLam then lamO (exprO n d) last rest
 else rowsO (exprO n d) last rest
theorem exprO_succ (n d : Nat) (last : Int) (rest : List Tok) : exprO (n + 1) d last rest = if shapeL rest ∈ exprShapes then (if d = 200 then refuseO 12 last rest else bodyO n (d + 1) last rest) else refuseO 3 last rest := by
 conv => lhs; unfold exprO
 rfl
theorem look_expr {b : Nat} {s : Sh} : (∃ f first cap, lookSh (exprForms b) s = some (.func (.func f) first cap) ∧ (∀ args w, (callFunc f args).run Tryz.prog w = .ok (.enter f args) w) ∧ s ∈ exprShapes) ∨ (lookSh (exprForms b) s = none ∧ s ∉ exprShapes) := by
 unfold exprShapes
 by_cases h1 : s = sLet
 ·subst h1; exact Or.inl ⟨_, _, _, rfl, enters_of Tryz.func52 (by kernel_rfl) rfl, by simp⟩
 by_cases h2 : s = sCase
 ·subst h2; exact Or.inl ⟨_, _, _, rfl, enters_of Tryz.func53 (by kernel_rfl) rfl, by simp⟩
 by_cases h3 : s = sLam
 ·subst h3; exact Or.inl ⟨_, _, _, rfl, enters_of Tryz.func54 (by kernel_rfl) rfl, by simp⟩
 by_cases h4 : s = sName
 ·subst h4; exact Or.inl ⟨_, _, _, rfl, enters_of Tryz.func55 (by kernel_rfl) rfl, by simp⟩
 by_cases h5 : s = sCon
 ·subst h5; exact Or.inl ⟨_, _, _, rfl, enters_of Tryz.func55 (by kernel_rfl) rfl, by simp⟩
 by_cases h6 : s = sNum
 ·subst h6; exact Or.inl ⟨_, _, _, rfl, enters_of Tryz.func55 (by kernel_rfl) rfl, by simp⟩
 by_cases h7 : s = sBack
 ·subst h7; exact Or.inl ⟨_, _, _, rfl, enters_of Tryz.func55 (by kernel_rfl) rfl, by simp⟩
 by_cases h8 : s = sOpen
 ·subst h8; exact Or.inl ⟨_, _, _, rfl, enters_of Tryz.func55 (by kernel_rfl) rfl, by simp⟩
 ·refine Or.inr ⟨?_, by simp [h1, h2, h3, h4, h5, h6, h7, h8]⟩
  simp [lookSh, exprForms, Ne.symm h1, Ne.symm h2, Ne.symm h3, Ne.symm h4, Ne.symm h5, Ne.symm h6, Ne.symm h7, Ne.symm h8]
def FormC (b me ma : Nat) (B : Bx) (n d : Nat) : Prop :=
 ∀ (last : Int) (rest : List Tok) (W : World) (f : FuncId) (first cap : Array Value), rest.length ≤ n → rest.length ≤ 4096 → Ctx W b me ma B → Rdr W b me ma last rest d → lookSh (exprForms b) (shapeL rest) = some (.func (.func f) first cap) →
  Calls Tryz.prog f (first ++ cap) W (OutSaid b me ma d (ExV W.heap.size) (bodyO n d last rest) W)
theorem expr_step (b me ma : Nat) (B : Bx) (n d : Nat) (hd : d ≤ 200) (hF : d ≠ 200 → FormC b me ma B n (d + 1)) : ExprC b me ma B (n + 1) d := by
 intro last rest w hn hL hC hR
 have hlt : b < w.heap.size := Bl hR.c1
 have hx := (Below.refl w.heap.size w).alloc Nr (.cells #[.int .i64 0, .string ⟨#[]⟩, .bool false, .int .u64 0, .slice none 0 0, .slice none 0 0, .slice none 0 0, .slice none 0 0] 49)
 have HX := Hd (Ai hx (Ai (hR.later hx) (Ai (box8 w b hlt) (hC.later (grown_of hx)))))
 have c3 := (hR.later hx).c3
 have hE0 := exprO_succ n d last rest
 clear hx hR
 go_enter Tryz.func86, Tryz.ntmps86
 go_upto_region 1 with fail
 generalize (w.alloc (.cells #[.int .i64 0, .string ⟨#[]⟩, .bool false, .int .u64 0, .slice none 0 0, .slice none 0 0, .slice none 0 0, .slice none 0 0] 49)) = W at *
 have HF := Hd (form_any b me ma last rest d me (exprForms b) W HX.out.2.1 HX.out.2.2.2.ex)
 have hsz0 : w.heap.size + 1 ≤ W.heap.size := Bl (HX.out.2.2.1 W (grown_of Br)).1
 have HE0 := Hd hE0
 clear hE0
 go_wp2_with fail
 refine HF.out.mono ?_
 rintro e w2 h2
 rcases h2 with ⟨v, hv, rfl, hb2⟩ | ⟨hv, hbr, hb2⟩
 ·obtain ⟨f, first, cap, rfl, eg, hmem⟩ : ∃ f first cap, v = .func (.func f) first cap ∧ (∀ args w, (callFunc f args).run Tryz.prog w = .ok (.enter f args) w) ∧ shapeL rest ∈ exprShapes := by
   rcases look_expr (b := b) (s := shapeL rest) with ⟨f, first, cap, h, eg, hm⟩ | ⟨h, _⟩
   ·rw [hv] at h
    cases h
    exact ⟨f, first, cap, rfl, eg, hm⟩
   ·rw [hv] at h; cases h
  have c2 := (HX.out.2.1.later hb2).c2
  have z2 := (HX.out.2.1.later hb2).z 2
  have hE1 := HE0.out
  rw [if_pos hmem] at hE1
  have H2 := Hd (Ai hb2 (Ai hv hE1))
  clear hb2 hv HF c3 hE1 hmem
  by_cases g : d = 200
  ·subst g
   have HRf := Hd (refuse_any b me ma last rest 200 12 w2 (HX.out.2.1.later H2.out.1))
   have H3 := Hd (Gt (grown_of (b := b) HX.out.1) (grown_of H2.out.1))
   have hE2 := H2.out.2.2
   rw [if_pos rfl, refuseO_eq] at hE2
   have HE2 := Hd hE2
   clear hE2
   go_wp2_with fail
   refine HRf.out.mono ?_
   rintro e w5 ⟨hbr, hb5⟩
   have H5 := Hd (Gt H3.out (grown_of (b := b) hb5))
   unfold Broken at hbr
   subst hbr
   clear hb5 HRf
   go_wp2_with fail
   refine ⟨rfl, ?_⟩
   rw [HE2.out]
   exact ⟨rfl, H5.out⟩
  ·have g1 : ((d : Int) == 200) = false := by simp; omega
   have hw : IntKind.i64.wrap ((d : Int) + 1) = (d : Int) + 1 := by rw [IntKind.wrap_i64]; omega
   have hdp := (HX.out.2.1.later H2.out.1).deep (d + 1)
   have hgd := set_grown w2 b 2 (.int .i64 ((d : Int) + 1))
   have hcall := hF g last rest (w2.setCell ⟨b, 2, none⟩ (.int .i64 ((d : Int) + 1))) f first cap (by omega) hL ((HX.out.2.2.2.later (grown_of H2.out.1)).later hgd) hdp H2.out.2.1
   have hE2 := H2.out.2.2
   rw [if_neg g] at hE2
   have H3 := Hd (Ai hE2 (Gt (grown_of (b := b) H2.out.1) hgd))
   have HCl := Hd hcall
   clear hcall hgd hdp hE2
   go_wp2_with fail
   refine HCl.out.mono ?_
   rintro e w3 h3
   cases ho : bodyO n (d + 1) last rest with
   | bad er ln =>
    rw [ho] at h3
    obtain ⟨hbr, hg3⟩ := h3
    have H4 := Hd (Ai ho (Gt (grown_of (b := b) HX.out.1) (Gt H3.out.2 hg3)))
    unfold Broken at hbr
    subst hbr
    clear hg3 HCl ho
    go_wp2_with fail
    refine ⟨rfl, ?_⟩
    rw [H3.out.1, H4.out.1]
    exact ⟨rfl, H4.out.2⟩
   | ok x l r =>
    rw [ho] at h3
    obtain ⟨⟨k, nm, f', u, vp, vk, vb, va, rfl, hat⟩, hR3, hg3⟩ := h3
    obtain ⟨⟨ap, np, cp, rfl⟩, ⟨ak, nk, ck, rfl⟩, ⟨ab, nb, cb, rfl⟩, ⟨aa, na, ca, rfl⟩⟩ := hat.slices
    have hy3 := (Below.refl w3.heap.size w3).alloc Nr (.cells #[.int .i64 k, .string nm, .bool f', .int .u64 u, .slice ap np cp, .slice ak nk ck, .slice ab nb cb, .slice aa na ca] 49)
    have hb3 : b < w3.heap.size := Bl hR3.c1
    have hszd : (w2.setCell ⟨b, 2, none⟩ (.int .i64 ((d : Int) + 1))).heap.size = w2.heap.size := by simp
    have hsz2 := H2.out.1.size
    rw [hszd] at hat
    clear hszd
    have e0 : (w3.alloc (.cells #[.int .i64 k, .string nm, .bool f', .int .u64 u, .slice ap np cp, .slice ak nk ck, .slice ab nb cb, .slice aa na ca] 49)).cell? ⟨w3.heap.size, 0, none⟩ = some (.int .i64 k) := by simp [go_sem]
    have e1 : (w3.alloc (.cells #[.int .i64 k, .string nm, .bool f', .int .u64 u, .slice ap np cp, .slice ak nk ck, .slice ab nb cb, .slice aa na ca] 49)).cell? ⟨w3.heap.size, 1, none⟩ = some (.string nm) := by simp [go_sem]
    have e2 : (w3.alloc (.cells #[.int .i64 k, .string nm, .bool f', .int .u64 u, .slice ap np cp, .slice ak nk ck, .slice ab nb cb, .slice aa na ca] 49)).cell? ⟨w3.heap.size, 2, none⟩ = some (.bool f') := by simp [go_sem]
    have e3 : (w3.alloc (.cells #[.int .i64 k, .string nm, .bool f', .int .u64 u, .slice ap np cp, .slice ak nk ck, .slice ab nb cb, .slice aa na ca] 49)).cell? ⟨w3.heap.size, 3, none⟩ = some (.int .u64 u) := by simp [go_sem]
    have e4 : (w3.alloc (.cells #[.int .i64 k, .string nm, .bool f', .int .u64 u, .slice ap np cp, .slice ak nk ck, .slice ab nb cb, .slice aa na ca] 49)).cell? ⟨w3.heap.size, 4, none⟩ = some (.slice ap np cp) := by simp [go_sem]
    have e5 : (w3.alloc (.cells #[.int .i64 k, .string nm, .bool f', .int .u64 u, .slice ap np cp, .slice ak nk ck, .slice ab nb cb, .slice aa na ca] 49)).cell? ⟨w3.heap.size, 5, none⟩ = some (.slice ak nk ck) := by simp [go_sem]
    have e6 : (w3.alloc (.cells #[.int .i64 k, .string nm, .bool f', .int .u64 u, .slice ap np cp, .slice ak nk ck, .slice ab nb cb, .slice aa na ca] 49)).cell? ⟨w3.heap.size, 6, none⟩ = some (.slice ab nb cb) := by simp [go_sem]
    have e7 : (w3.alloc (.cells #[.int .i64 k, .string nm, .bool f', .int .u64 u, .slice ap np cp, .slice ak nk ck, .slice ab nb cb, .slice aa na ca] 49)).cell? ⟨w3.heap.size, 7, none⟩ = some (.slice aa na ca) := by simp [go_sem]
    have hgA := Gt (Gt (Gt (grown_of (b := b) H2.out.1) (set_grown w2 b 2 (.int .i64 ((d : Int) + 1)))) hg3) (grown_of (b := b) hy3)
    have H4 := Hd (Ai ho (Ai (hR3.later hy3) (Ai hgA (hat.kept (grown_of (b := b) hy3) (by omega) Nr))))
    have c2' := (hR3.later hy3).c2
    have z2' := (hR3.later hy3).z 2
    clear hR3 hg3 hat HCl ho hy3 hgA c2 z2
    go_upto_region 6 with fail
    generalize (w3.alloc (.cells #[.int .i64 k, .string nm, .bool f', .int .u64 u, .slice ap np cp, .slice ak nk ck, .slice ab nb cb, .slice aa na ca] 49)) = W4 at *
    have hw2 : IntKind.i64.wrap ((d : Int) + 1 - 1) = (d : Int) := by rw [IntKind.wrap_i64]; omega
    have c2'' : W4.cell? ⟨b, 2, none⟩ = some (.int .i64 ((d : Int) + 1)) := c2'
    clear c2'
    go_upto_region 7 with fail
    replace e0 := (at_far W4 b w3.heap.size 2 0 (.int .i64 (d : Int)) (by omega)).trans e0
    replace e1 := (at_far W4 b w3.heap.size 2 1 (.int .i64 (d : Int)) (by omega)).trans e1
    replace e2 := (at_far W4 b w3.heap.size 2 2 (.int .i64 (d : Int)) (by omega)).trans e2
    replace e3 := (at_far W4 b w3.heap.size 2 3 (.int .i64 (d : Int)) (by omega)).trans e3
    replace e4 := (at_far W4 b w3.heap.size 2 4 (.int .i64 (d : Int)) (by omega)).trans e4
    replace e5 := (at_far W4 b w3.heap.size 2 5 (.int .i64 (d : Int)) (by omega)).trans e5
    replace e6 := (at_far W4 b w3.heap.size 2 6 (.int .i64 (d : Int)) (by omega)).trans e6
    replace e7 := (at_far W4 b w3.heap.size 2 7 (.int .i64 (d : Int)) (by omega)).trans e7
    have hR5 := H4.out.2.1.deep d
    have hgs := set_grown W4 b 2 (.int .i64 (d : Int))
    have hg5 := Gt H4.out.2.2.1 hgs
    have hat5 := H4.out.2.2.2.kept hgs (lo' := w2.heap.size) (by omega) Nr
    generalize (W4.setCell ⟨b, 2, none⟩ (.int .i64 (d : Int))) = W5 at *
    obtain ⟨d0, d1, d2, d3, d4, d5, d6, d7, z0, z1, z2, z3, z4, z5, z6, z7⟩ := HX.out.2.2.1 W5 hg5
    have H5 := Hd (Ai hR5 (Ai (Gt (grown_of (b := b) HX.out.1) hg5) hat5))
    clear hR5 hg5 hat5 hgs c2'' z2'
    go_wp2_with fail
    obtain ⟨v0, v1, v2, v3, v4, v5, v6, v7⟩ := set8 d0 d1 d2 d3 d4 d5 d6 d7 (.int .i64 k) (.string nm) (.bool f') (.int .u64 u) (.slice ap np cp) (.slice ak nk ck) (.slice ab nb cb) (.slice aa na ca)
    refine bodyPost_ret (v := .agg #[.int .i64 k, .string nm, .bool f', .int .u64 u, .slice ap np cp, .slice ak nk ck, .slice ab nb cb, .slice aa na ca]) (by simp [results, Tryz.results86, go_sem, v0, v1, v2, v3, v4, v5, v6, v7]) rfl ?_
    rw [H3.out.1, H4.out.1]
    exact ⟨⟨_, _, _, _, _, _, _, _, rfl, H5.out.2.2.over8 (by omega) _ _ _ _ _ _ _ _⟩, H5.out.1.over8 hlt _ _ _ _ _ _ _ _, grown_new8 H5.out.2.1 Nr _ _ _ _ _ _ _ _⟩
 ·have hmem : shapeL rest ∉ exprShapes := by
   rcases look_expr (b := b) (s := shapeL rest) with ⟨_, _, _, h, _⟩ | ⟨_, h⟩
   ·rw [hv] at h; cases h
   ·exact h
  have hE1 := HE0.out
  rw [if_neg hmem, refuseO_eq] at hE1
  have H2 := Hd (Ai hE1 (Gt (grown_of (b := b) HX.out.1) (grown_of hb2)))
  unfold Broken at hbr
  subst hbr
  clear hb2 hv HF c3 hE1 hmem
  go_wp2_with fail
  refine ⟨rfl, ?_⟩
  rw [H2.out.1]
  exact ⟨rfl, H2.out.2⟩
theorem bind_ok {α β : Type} (a : α) (l : Int) (r : List Tok) (f : α → Int → List Tok → Out β) : (Out.ok a l r).bind f = f a l r := rfl
theorem bind_bad {α β : Type} (e l : Int) (f : α → Int → List Tok → Out β) : (Out.bad e l).bind f = .bad e l := rfl
def BoxW (W : World) (p : Nat) (cs : List Value) : Prop := (∀ j v, cs[j]? = some v → W.cell? ⟨p, j, none⟩ = some v) ∧ ∀ j, W.frozen? ⟨p, j, none⟩ = false
theorem BoxW.alloc (w : World) (cs : Array Value) (t : TypeId) : BoxW (w.alloc (.cells cs t)) w.heap.size cs.toList :=
 ⟨fun j v h => by simp [go_sem]; simpa using h, fun j => by simp⟩
theorem BoxW.lt {W : World} {p : Nat} {c : Value} {cs : List Value} (h : BoxW W p (c :: cs)) : p < W.heap.size := Bl (h.1 0 c rfl)
theorem BoxW.grown {W W' : World} {p b : Nat} {c : Value} {cs : List Value} (h : BoxW W p (c :: cs)) (hg : W.grownBy W' (some b)) (hp : p ≠ b) : BoxW W' p (c :: cs) :=
 ⟨fun j v hj => hg.cell (h.1 j v hj) (by simpa using hp), fun j => (World.frozen?_of_block (w := W) (hg.block _ h.lt (by simpa using hp))).trans (h.2 j)⟩
theorem boxw_grown {W W' : World} {p b : Nat} {c : Value} {cs : List Value} (h : BoxW W p (c :: cs)) (hg : W.grownBy W' (some b)) (hp : p ≠ b) : BoxW W' p (c :: cs) := h.grown hg hp
theorem BoxW.below {W W' : World} {p : Nat} {c : Value} {cs : List Value} (h : BoxW W p (c :: cs)) (hb : Below W.heap.size W W') : BoxW W' p (c :: cs) :=
 h.grown (b := p + 1) (grown_of hb) (by omega)
theorem BoxW.set {W : World} {p : Nat} {cs : List Value} (h : BoxW W p cs) (i : Nat) (hi : i < cs.length) (v : Value) : BoxW (W.setCell ⟨p, i, none⟩ v) p (cs.set i v) := by
 refine ⟨fun j u hj => ?_, fun j => by simp [h.2 j]⟩
 by_cases e : i = j
 ·subst e
  rw [List.getElem?_set_self hi] at hj
  cases hj
  exact at_sam v (h.1 i cs[i] (List.getElem?_eq_getElem hi))
 ·rw [List.getElem?_set_ne e] at hj
  exact (at_oth _ _ _ _ _ e).trans (h.1 j u hj)
theorem BoxW.far {W : World} {p q i : Nat} {cs : List Value} (h : BoxW W p cs) (hq : q ≠ p) (v : Value) : BoxW (W.setCell ⟨q, i, none⟩ v) p cs :=
 ⟨fun j u hj => (at_far _ _ _ _ _ _ hq).trans (h.1 j u hj), fun j => by simp [h.2 j]⟩
def Kp (lo hi : Nat) (W W' : World) : Prop := ∀ g, lo ≤ g → g < hi → W'.heap[g]? = W.heap[g]?
theorem Kp.refl (lo hi : Nat) (W : World) : Kp lo hi W W := fun _ _ _ => rfl
theorem Kp.trans {lo hi : Nat} {W W' W'' : World} (h : Kp lo hi W W') (h2 : Kp lo hi W' W'') : Kp lo hi W W'' := fun g h3 h4 => (h2 g h3 h4).trans (h g h3 h4)
theorem Kp.grown {lo hi : Nat} {W W' : World} {b : Nat} (hg : W.grownBy W' (some b)) (hb : b < lo) (hi' : hi ≤ W.heap.size) : Kp lo hi W W' := fun g h1 h2 => hg.block g (by omega) (by simp; omega)
theorem Kp.below {lo hi : Nat} {W W' : World} (hb : Below W.heap.size W W') (hi' : hi ≤ W.heap.size) : Kp lo hi W W' := fun g _ h2 => hb.block g (by omega)
theorem Kp.set {lo hi : Nat} (W : World) (p i : Nat) (v : Value) (h : p < lo ∨ hi ≤ p) : Kp lo hi W (W.setCell ⟨p, i, none⟩ v) := fun g h1 h2 => Below.heap_setCell _ _ _ _ (by simp only; omega)
theorem Kp.sub {lo hi lo' hi' : Nat} {W W' : World} (h : Kp lo hi W W') (h1 : lo ≤ lo') (h2 : hi' ≤ hi) : Kp lo' hi' W W' := fun g h3 h4 => h g (by omega) (by omega)
theorem ExAt.kp {W W' : World} {lo lo' : Nat} {x : Ex} {cs : List Value} (h : ExAt W (fun g => lo ≤ g) x cs) (hk : Kp lo W.heap.size W W') (hl : lo' ≤ lo) : ExAt W' (fun g => lo' ≤ g) x cs := h.move fun g hg lt => ⟨Nt hl hg, hk g hg lt⟩
theorem ExsAt.kp {W W' : World} {lo lo' : Nat} {x : List Ex} {cs : List Value} (h : ExsAt W (fun g => lo ≤ g) x cs) (hk : Kp lo W.heap.size W W') (hl : lo' ≤ lo) : ExsAt W' (fun g => lo' ≤ g) x cs := h.move fun g hg lt => ⟨Nt hl hg, hk g hg lt⟩
theorem BndsAt.kp {W W' : World} {lo lo' : Nat} {x : List Bnd} {cs : List Value} (h : BndsAt W (fun g => lo ≤ g) x cs) (hk : Kp lo W.heap.size W W') (hl : lo' ≤ lo) : BndsAt W' (fun g => lo' ≤ g) x cs := h.move fun g hg lt => ⟨Nt hl hg, hk g hg lt⟩
theorem AltsAt.kp {W W' : World} {lo lo' : Nat} {x : List Alt} {cs : List Value} (h : AltsAt W (fun g => lo ≤ g) x cs) (hk : Kp lo W.heap.size W W') (hl : lo' ≤ lo) : AltsAt W' (fun g => lo' ≤ g) x cs := h.move fun g hg lt => ⟨Nt hl hg, hk g hg lt⟩
theorem RowAt.kp {W W' : World} {lo lo' : Nat} {e : TypeId} {size : Nat} {v : Value} {n : Nat} {xs : List Value} (h : RowAt W (fun g => lo ≤ g) e size v n xs) (hk : Kp lo W.heap.size W W') (hl : lo' ≤ lo) : RowAt W' (fun g => lo' ≤ g) e size v n xs := h.move fun g hg lt => ⟨Nt hl hg, hk g hg lt⟩
theorem RowAt.own {W : World} {lo : Nat} {e : TypeId} {size : Nat} {v : Value} {n : Nat} {xs : List Value} (h : W.ownsRow lo e size v n xs) : RowAt W (fun g => lo ≤ g) e size v n xs := RowAt.of h fun _ h => h
theorem ExAt.withKids {W : World} {K : Nat → Prop} {a : Ex} {k nm f u vp vk vb va v : Value} (h : ExAt W K a [k, nm, f, u, vp, vk, vb, va]) {xs : List Ex} {cs : List Value} (hk : RowAt W K 49 8 v xs.length cs) (hx : ExsAt W K xs cs) : ExAt W K (a.withKids xs) [k, nm, f, u, vp, v, vb, va] := by
 cases h with
 | mk k n f x ps ks bs al vp vk vb va xk xb xa hp hk0 hb ha tk tb ta => exact .mk k n f x ps xs bs al vp v vb va cs xb xa hp hk hb ha hx tb ta
theorem ExAt.kids {W : World} {K : Nat → Prop} {v : Value} {xs : List Ex} {cs : List Value} (k : Int) (n : Nm) (hk : RowAt W K 49 8 v xs.length cs) (hx : ExsAt W K xs cs) : ExAt W K (.mk k n false 0 [] xs [] []) [.int .i64 k, .string (tx n), .bool false, .int .u64 0, .slice none 0 0, v, .slice none 0 0, .slice none 0 0] :=
 .mk k n false 0 [] xs [] [] _ v _ _ cs [] [] (RowAt.nil _ _ _ _) hk (RowAt.nil _ _ _ _) (RowAt.nil _ _ _ _) hx .nil .nil
theorem own_built {W : World} {g base : Nat} {e : TypeId} {size n : Nat} {cs : Array Value} (hg : W.heap[g]? = some (.cells cs e)) (hb : base ≤ g) (hs : cs.size = n * size) (hn : n ≤ maxLen) : W.ownsRow base e size (.slice (some ⟨g, 0, none⟩) n n) n cs.toList :=
 ⟨by rw [Array.length_toList]; exact hs, Or.inr ⟨g, n, cs, rfl, hb, hg, Nat.le_refl _, hn, hs, by rw [← hs, ← Array.length_toList]; exact List.take_length⟩⟩
theorem own_news {W : World} {base : Nat} {e : TypeId} {size n : Nat} {a : Addr} {c : Nat} {xs : List Value} (h : W.ownsRow base e size (.slice (some a) n c) n xs) : ∀ j u, xs[j]? = some u → W.cell? (a.add j) = some u := by
 obtain ⟨h0, ⟨h, -⟩ | ⟨g, cap, cur, h, h2, h3, h4, h5, h6, h7⟩⟩ := h
 ·cases h
 ·cases h
  intro j u hj
  have hadd : (⟨g, 0, none⟩ : Addr).add j = ⟨g, j, none⟩ := by unfold Addr.add; split <;> simp_all
  rw [hadd, cell_of_row W g j cur e (0, 0) h3]
  rw [← h7] at hj
  have := List.getElem?_take (l := cur.toList) (i := n * size) (j := j)
  rw [hj] at this
  split at this
  ·simpa using this.symm
  ·cases this
theorem ExAt.one {W : World} {K : Nat → Prop} {x : Ex} {cs : List Value} (h : ExAt W K x cs) : ∀ u ∈ cs, u.oneCell' = true := by
 cases h with
 | mk k n f x ps ks bs al vp vk vb va xk xb xa hp hk hb ha tk tb ta =>
  obtain ⟨_, _, _, rfl⟩ := hp.slice
  obtain ⟨_, _, _, rfl⟩ := hk.slice
  obtain ⟨_, _, _, rfl⟩ := hb.slice
  obtain ⟨_, _, _, rfl⟩ := ha.slice
  intro u hu
  simp at hu
  rcases hu with rfl | rfl | rfl | rfl | rfl | rfl | rfl | rfl <;> rfl
theorem ExsAt.one {W : World} {K : Nat → Prop} : ∀ {es : List Ex} {xs : List Value}, ExsAt W K es xs → ∀ u ∈ xs, u.oneCell' = true
 | [], _, .nil => fun u hu => by cases hu
 | _ :: _, _, .cons _ _ cs xs h t => fun u hu => by
  rcases List.mem_append.1 hu with hu | hu
  ·exact h.one u hu
  ·exact t.one u hu
theorem ExsAt.len {W : World} {K : Nat → Prop} : ∀ {es : List Ex} {xs : List Value}, ExsAt W K es xs → xs.length = es.length * 8
 | [], _, .nil => rfl
 | _ :: es, _, .cons _ _ cs xs h t => by
  have h8 : cs.length = 8 := by cases h; rfl
  have := t.len
  simp only [List.length_append, List.length_cons, h8, this]
  omega
theorem BoxW.q8 {W : World} {p : Nat} {a0 a1 a2 a3 a4 a5 a6 a7 : Value} (h : BoxW W p [a0, a1, a2, a3, a4, a5, a6, a7]) : W.cell? ⟨p, 0, none⟩ = some a0 ∧ W.cell? ⟨p, 1, none⟩ = some a1 ∧ W.cell? ⟨p, 2, none⟩ = some a2 ∧ W.cell? ⟨p, 3, none⟩ = some a3 ∧ W.cell? ⟨p, 4, none⟩ = some a4 ∧ W.cell? ⟨p, 5, none⟩ = some a5 ∧ W.cell? ⟨p, 6, none⟩ = some a6 ∧ W.cell? ⟨p, 7, none⟩ = some a7 := ⟨h.1 0 _ rfl, h.1 1 _ rfl, h.1 2 _ rfl, h.1 3 _ rfl, h.1 4 _ rfl, h.1 5 _ rfl, h.1 6 _ rfl, h.1 7 _ rfl⟩
theorem BoxW.z8 {W : World} {p : Nat} {cs : List Value} (h : BoxW W p cs) : W.frozen? ⟨p, 0, none⟩ = false ∧ W.frozen? ⟨p, 1, none⟩ = false ∧ W.frozen? ⟨p, 2, none⟩ = false ∧ W.frozen? ⟨p, 3, none⟩ = false ∧ W.frozen? ⟨p, 4, none⟩ = false ∧ W.frozen? ⟨p, 5, none⟩ = false ∧ W.frozen? ⟨p, 6, none⟩ = false ∧ W.frozen? ⟨p, 7, none⟩ = false := ⟨h.2 0, h.2 1, h.2 2, h.2 3, h.2 4, h.2 5, h.2 6, h.2 7⟩
theorem BoxW.q10 {W : World} {p : Nat} {a0 a1 a2 a3 a4 a5 a6 a7 a8 a9 : Value} (h : BoxW W p [a0, a1, a2, a3, a4, a5, a6, a7, a8, a9]) : W.cell? ⟨p, 0, none⟩ = some a0 ∧ W.cell? ⟨p, 1, none⟩ = some a1 ∧ W.cell? ⟨p, 2, none⟩ = some a2 ∧ W.cell? ⟨p, 3, none⟩ = some a3 ∧ W.cell? ⟨p, 4, none⟩ = some a4 ∧ W.cell? ⟨p, 5, none⟩ = some a5 ∧ W.cell? ⟨p, 6, none⟩ = some a6 ∧ W.cell? ⟨p, 7, none⟩ = some a7 ∧ W.cell? ⟨p, 8, none⟩ = some a8 ∧ W.cell? ⟨p, 9, none⟩ = some a9 := ⟨h.1 0 _ rfl, h.1 1 _ rfl, h.1 2 _ rfl, h.1 3 _ rfl, h.1 4 _ rfl, h.1 5 _ rfl, h.1 6 _ rfl, h.1 7 _ rfl, h.1 8 _ rfl, h.1 9 _ rfl⟩
theorem BoxW.z10 {W : World} {p : Nat} {cs : List Value} (h : BoxW W p cs) : W.frozen? ⟨p, 0, none⟩ = false ∧ W.frozen? ⟨p, 1, none⟩ = false ∧ W.frozen? ⟨p, 2, none⟩ = false ∧ W.frozen? ⟨p, 3, none⟩ = false ∧ W.frozen? ⟨p, 4, none⟩ = false ∧ W.frozen? ⟨p, 5, none⟩ = false ∧ W.frozen? ⟨p, 6, none⟩ = false ∧ W.frozen? ⟨p, 7, none⟩ = false ∧ W.frozen? ⟨p, 8, none⟩ = false ∧ W.frozen? ⟨p, 9, none⟩ = false := ⟨h.2 0, h.2 1, h.2 2, h.2 3, h.2 4, h.2 5, h.2 6, h.2 7, h.2 8, h.2 9⟩
theorem BoxW.q13 {W : World} {p : Nat} {a0 a1 a2 a3 a4 a5 a6 a7 a8 a9 a10 a11 a12 : Value} (h : BoxW W p [a0, a1, a2, a3, a4, a5, a6, a7, a8, a9, a10, a11, a12]) : W.cell? ⟨p, 0, none⟩ = some a0 ∧ W.cell? ⟨p, 1, none⟩ = some a1 ∧ W.cell? ⟨p, 2, none⟩ = some a2 ∧ W.cell? ⟨p, 3, none⟩ = some a3 ∧ W.cell? ⟨p, 4, none⟩ = some a4 ∧ W.cell? ⟨p, 5, none⟩ = some a5 ∧ W.cell? ⟨p, 6, none⟩ = some a6 ∧ W.cell? ⟨p, 7, none⟩ = some a7 ∧ W.cell? ⟨p, 8, none⟩ = some a8 ∧ W.cell? ⟨p, 9, none⟩ = some a9 ∧ W.cell? ⟨p, 10, none⟩ = some a10 ∧ W.cell? ⟨p, 11, none⟩ = some a11 ∧ W.cell? ⟨p, 12, none⟩ = some a12 := ⟨h.1 0 _ rfl, h.1 1 _ rfl, h.1 2 _ rfl, h.1 3 _ rfl, h.1 4 _ rfl, h.1 5 _ rfl, h.1 6 _ rfl, h.1 7 _ rfl, h.1 8 _ rfl, h.1 9 _ rfl, h.1 10 _ rfl, h.1 11 _ rfl, h.1 12 _ rfl⟩
theorem BoxW.z13 {W : World} {p : Nat} {cs : List Value} (h : BoxW W p cs) : W.frozen? ⟨p, 0, none⟩ = false ∧ W.frozen? ⟨p, 1, none⟩ = false ∧ W.frozen? ⟨p, 2, none⟩ = false ∧ W.frozen? ⟨p, 3, none⟩ = false ∧ W.frozen? ⟨p, 4, none⟩ = false ∧ W.frozen? ⟨p, 5, none⟩ = false ∧ W.frozen? ⟨p, 6, none⟩ = false ∧ W.frozen? ⟨p, 7, none⟩ = false ∧ W.frozen? ⟨p, 8, none⟩ = false ∧ W.frozen? ⟨p, 9, none⟩ = false ∧ W.frozen? ⟨p, 10, none⟩ = false ∧ W.frozen? ⟨p, 11, none⟩ = false ∧ W.frozen? ⟨p, 12, none⟩ = false := ⟨h.2 0, h.2 1, h.2 2, h.2 3, h.2 4, h.2 5, h.2 6, h.2 7, h.2 8, h.2 9, h.2 10, h.2 11, h.2 12⟩
theorem Rdr.o2 {W : World} {b me ma : Nat} {last : Int} {rest : List Tok} {d p i0 i1 : Nat} {v0 v1 : Value} (h : Rdr W b me ma last rest d) (hp : b < p) : Rdr ((W.setCell ⟨p, i0, none⟩ v0).setCell ⟨p, i1, none⟩ v1) b me ma last rest d := (h.over hp _).over hp _
theorem gn2 {w W : World} {b p i0 i1 : Nat} {v0 v1 : Value} (h : w.grownBy W (some b)) (hp : w.heap.size ≤ p) : w.grownBy ((W.setCell ⟨p, i0, none⟩ v0).setCell ⟨p, i1, none⟩ v1) (some b) := grown_new (grown_new h hp _) hp _
theorem Kp.s2 {lo hi : Nat} {W : World} {p i0 i1 : Nat} {v0 v1 : Value} (h : p < lo ∨ hi ≤ p) : Kp lo hi W ((W.setCell ⟨p, i0, none⟩ v0).setCell ⟨p, i1, none⟩ v1) := (Kp.set _ _ _ _ h).trans (Kp.set _ _ _ _ h)
theorem Rdr.o8 {W : World} {b me ma : Nat} {last : Int} {rest : List Tok} {d p i0 i1 i2 i3 i4 i5 i6 i7 : Nat} {v0 v1 v2 v3 v4 v5 v6 v7 : Value} (h : Rdr W b me ma last rest d) (hp : b < p) : Rdr ((((((((W.setCell ⟨p, i0, none⟩ v0).setCell ⟨p, i1, none⟩ v1).setCell ⟨p, i2, none⟩ v2).setCell ⟨p, i3, none⟩ v3).setCell ⟨p, i4, none⟩ v4).setCell ⟨p, i5, none⟩ v5).setCell ⟨p, i6, none⟩ v6).setCell ⟨p, i7, none⟩ v7) b me ma last rest d := (((((((h.over hp _).over hp _).over hp _).over hp _).over hp _).over hp _).over hp _).over hp _
theorem gn8 {w W : World} {b p i0 i1 i2 i3 i4 i5 i6 i7 : Nat} {v0 v1 v2 v3 v4 v5 v6 v7 : Value} (h : w.grownBy W (some b)) (hp : w.heap.size ≤ p) : w.grownBy ((((((((W.setCell ⟨p, i0, none⟩ v0).setCell ⟨p, i1, none⟩ v1).setCell ⟨p, i2, none⟩ v2).setCell ⟨p, i3, none⟩ v3).setCell ⟨p, i4, none⟩ v4).setCell ⟨p, i5, none⟩ v5).setCell ⟨p, i6, none⟩ v6).setCell ⟨p, i7, none⟩ v7) (some b) := grown_new (grown_new (grown_new (grown_new (grown_new (grown_new (grown_new (grown_new h hp _) hp _) hp _) hp _) hp _) hp _) hp _) hp _
theorem Kp.s8 {lo hi : Nat} {W : World} {p i0 i1 i2 i3 i4 i5 i6 i7 : Nat} {v0 v1 v2 v3 v4 v5 v6 v7 : Value} (h : p < lo ∨ hi ≤ p) : Kp lo hi W ((((((((W.setCell ⟨p, i0, none⟩ v0).setCell ⟨p, i1, none⟩ v1).setCell ⟨p, i2, none⟩ v2).setCell ⟨p, i3, none⟩ v3).setCell ⟨p, i4, none⟩ v4).setCell ⟨p, i5, none⟩ v5).setCell ⟨p, i6, none⟩ v6).setCell ⟨p, i7, none⟩ v7) := (((((((Kp.set _ _ _ _ h).trans (Kp.set _ _ _ _ h)).trans (Kp.set _ _ _ _ h)).trans (Kp.set _ _ _ _ h)).trans (Kp.set _ _ _ _ h)).trans (Kp.set _ _ _ _ h)).trans (Kp.set _ _ _ _ h)).trans (Kp.set _ _ _ _ h)
theorem Kp.s10 {lo hi : Nat} {W : World} {p i0 i1 i2 i3 i4 i5 i6 i7 i8 i9 : Nat} {v0 v1 v2 v3 v4 v5 v6 v7 v8 v9 : Value} (h : p < lo ∨ hi ≤ p) : Kp lo hi W ((((((((((W.setCell ⟨p, i0, none⟩ v0).setCell ⟨p, i1, none⟩ v1).setCell ⟨p, i2, none⟩ v2).setCell ⟨p, i3, none⟩ v3).setCell ⟨p, i4, none⟩ v4).setCell ⟨p, i5, none⟩ v5).setCell ⟨p, i6, none⟩ v6).setCell ⟨p, i7, none⟩ v7).setCell ⟨p, i8, none⟩ v8).setCell ⟨p, i9, none⟩ v9) := (((((((((Kp.set _ _ _ _ h).trans (Kp.set _ _ _ _ h)).trans (Kp.set _ _ _ _ h)).trans (Kp.set _ _ _ _ h)).trans (Kp.set _ _ _ _ h)).trans (Kp.set _ _ _ _ h)).trans (Kp.set _ _ _ _ h)).trans (Kp.set _ _ _ _ h)).trans (Kp.set _ _ _ _ h)).trans (Kp.set _ _ _ _ h)
theorem Rdr.o13 {W : World} {b me ma : Nat} {last : Int} {rest : List Tok} {d p i0 i1 i2 i3 i4 i5 i6 i7 i8 i9 i10 i11 i12 : Nat} {v0 v1 v2 v3 v4 v5 v6 v7 v8 v9 v10 v11 v12 : Value} (h : Rdr W b me ma last rest d) (hp : b < p) : Rdr (((((((((((((W.setCell ⟨p, i0, none⟩ v0).setCell ⟨p, i1, none⟩ v1).setCell ⟨p, i2, none⟩ v2).setCell ⟨p, i3, none⟩ v3).setCell ⟨p, i4, none⟩ v4).setCell ⟨p, i5, none⟩ v5).setCell ⟨p, i6, none⟩ v6).setCell ⟨p, i7, none⟩ v7).setCell ⟨p, i8, none⟩ v8).setCell ⟨p, i9, none⟩ v9).setCell ⟨p, i10, none⟩ v10).setCell ⟨p, i11, none⟩ v11).setCell ⟨p, i12, none⟩ v12) b me ma last rest d := ((((((((((((h.over hp _).over hp _).over hp _).over hp _).over hp _).over hp _).over hp _).over hp _).over hp _).over hp _).over hp _).over hp _).over hp _
theorem gn13 {w W : World} {b p i0 i1 i2 i3 i4 i5 i6 i7 i8 i9 i10 i11 i12 : Nat} {v0 v1 v2 v3 v4 v5 v6 v7 v8 v9 v10 v11 v12 : Value} (h : w.grownBy W (some b)) (hp : w.heap.size ≤ p) : w.grownBy (((((((((((((W.setCell ⟨p, i0, none⟩ v0).setCell ⟨p, i1, none⟩ v1).setCell ⟨p, i2, none⟩ v2).setCell ⟨p, i3, none⟩ v3).setCell ⟨p, i4, none⟩ v4).setCell ⟨p, i5, none⟩ v5).setCell ⟨p, i6, none⟩ v6).setCell ⟨p, i7, none⟩ v7).setCell ⟨p, i8, none⟩ v8).setCell ⟨p, i9, none⟩ v9).setCell ⟨p, i10, none⟩ v10).setCell ⟨p, i11, none⟩ v11).setCell ⟨p, i12, none⟩ v12) (some b) := grown_new (grown_new (grown_new (grown_new (grown_new (grown_new (grown_new (grown_new (grown_new (grown_new (grown_new (grown_new (grown_new h hp _) hp _) hp _) hp _) hp _) hp _) hp _) hp _) hp _) hp _) hp _) hp _) hp _
theorem Kp.s13 {lo hi : Nat} {W : World} {p i0 i1 i2 i3 i4 i5 i6 i7 i8 i9 i10 i11 i12 : Nat} {v0 v1 v2 v3 v4 v5 v6 v7 v8 v9 v10 v11 v12 : Value} (h : p < lo ∨ hi ≤ p) : Kp lo hi W (((((((((((((W.setCell ⟨p, i0, none⟩ v0).setCell ⟨p, i1, none⟩ v1).setCell ⟨p, i2, none⟩ v2).setCell ⟨p, i3, none⟩ v3).setCell ⟨p, i4, none⟩ v4).setCell ⟨p, i5, none⟩ v5).setCell ⟨p, i6, none⟩ v6).setCell ⟨p, i7, none⟩ v7).setCell ⟨p, i8, none⟩ v8).setCell ⟨p, i9, none⟩ v9).setCell ⟨p, i10, none⟩ v10).setCell ⟨p, i11, none⟩ v11).setCell ⟨p, i12, none⟩ v12) := ((((((((((((Kp.set _ _ _ _ h).trans (Kp.set _ _ _ _ h)).trans (Kp.set _ _ _ _ h)).trans (Kp.set _ _ _ _ h)).trans (Kp.set _ _ _ _ h)).trans (Kp.set _ _ _ _ h)).trans (Kp.set _ _ _ _ h)).trans (Kp.set _ _ _ _ h)).trans (Kp.set _ _ _ _ h)).trans (Kp.set _ _ _ _ h)).trans (Kp.set _ _ _ _ h)).trans (Kp.set _ _ _ _ h)).trans (Kp.set _ _ _ _ h)
theorem BoxW.b8 {W : World} {p : Nat} {a0 a1 a2 a3 a4 a5 a6 a7 v0 v1 v2 v3 v4 v5 v6 v7 : Value} (h : BoxW W p [a0, a1, a2, a3, a4, a5, a6, a7]) : BoxW ((((((((W.setCell ⟨p, 0, none⟩ v0).setCell ⟨p, 1, none⟩ v1).setCell ⟨p, 2, none⟩ v2).setCell ⟨p, 3, none⟩ v3).setCell ⟨p, 4, none⟩ v4).setCell ⟨p, 5, none⟩ v5).setCell ⟨p, 6, none⟩ v6).setCell ⟨p, 7, none⟩ v7) p [v0, v1, v2, v3, v4, v5, v6, v7] := (((((((h.set 0 (show 0 < 8 by decide) v0).set 1 (show 1 < 8 by decide) v1).set 2 (show 2 < 8 by decide) v2).set 3 (show 3 < 8 by decide) v3).set 4 (show 4 < 8 by decide) v4).set 5 (show 5 < 8 by decide) v5).set 6 (show 6 < 8 by decide) v6).set 7 (show 7 < 8 by decide) v7
theorem BoxW.b8v {W : World} {p : Nat} {a0 a1 a2 a3 a4 a5 a6 a7 : Value} (h : BoxW W p [a0, a1, a2, a3, a4, a5, a6, a7]) (v0 v1 v2 v3 v4 v5 v6 v7 : Value) : BoxW ((((((((W.setCell ⟨p, 0, none⟩ v0).setCell ⟨p, 1, none⟩ v1).setCell ⟨p, 2, none⟩ v2).setCell ⟨p, 3, none⟩ v3).setCell ⟨p, 4, none⟩ v4).setCell ⟨p, 5, none⟩ v5).setCell ⟨p, 6, none⟩ v6).setCell ⟨p, 7, none⟩ v7) p [v0, v1, v2, v3, v4, v5, v6, v7] := (((((((h.set 0 (show 0 < 8 by decide) v0).set 1 (show 1 < 8 by decide) v1).set 2 (show 2 < 8 by decide) v2).set 3 (show 3 < 8 by decide) v3).set 4 (show 4 < 8 by decide) v4).set 5 (show 5 < 8 by decide) v5).set 6 (show 6 < 8 by decide) v6).set 7 (show 7 < 8 by decide) v7
theorem BoxW.b10 {W : World} {p : Nat} {a0 a1 a2 a3 a4 a5 a6 a7 a8 a9 v0 v1 v2 v3 v4 v5 v6 v7 v8 v9 : Value} (h : BoxW W p [a0, a1, a2, a3, a4, a5, a6, a7, a8, a9]) : BoxW ((((((((((W.setCell ⟨p, 0, none⟩ v0).setCell ⟨p, 1, none⟩ v1).setCell ⟨p, 2, none⟩ v2).setCell ⟨p, 3, none⟩ v3).setCell ⟨p, 4, none⟩ v4).setCell ⟨p, 5, none⟩ v5).setCell ⟨p, 6, none⟩ v6).setCell ⟨p, 7, none⟩ v7).setCell ⟨p, 8, none⟩ v8).setCell ⟨p, 9, none⟩ v9) p [v0, v1, v2, v3, v4, v5, v6, v7, v8, v9] := (((((((((h.set 0 (show 0 < 10 by decide) v0).set 1 (show 1 < 10 by decide) v1).set 2 (show 2 < 10 by decide) v2).set 3 (show 3 < 10 by decide) v3).set 4 (show 4 < 10 by decide) v4).set 5 (show 5 < 10 by decide) v5).set 6 (show 6 < 10 by decide) v6).set 7 (show 7 < 10 by decide) v7).set 8 (show 8 < 10 by decide) v8).set 9 (show 9 < 10 by decide) v9
theorem BoxW.b10v {W : World} {p : Nat} {a0 a1 a2 a3 a4 a5 a6 a7 a8 a9 : Value} (h : BoxW W p [a0, a1, a2, a3, a4, a5, a6, a7, a8, a9]) (v0 v1 v2 v3 v4 v5 v6 v7 v8 v9 : Value) : BoxW ((((((((((W.setCell ⟨p, 0, none⟩ v0).setCell ⟨p, 1, none⟩ v1).setCell ⟨p, 2, none⟩ v2).setCell ⟨p, 3, none⟩ v3).setCell ⟨p, 4, none⟩ v4).setCell ⟨p, 5, none⟩ v5).setCell ⟨p, 6, none⟩ v6).setCell ⟨p, 7, none⟩ v7).setCell ⟨p, 8, none⟩ v8).setCell ⟨p, 9, none⟩ v9) p [v0, v1, v2, v3, v4, v5, v6, v7, v8, v9] := (((((((((h.set 0 (show 0 < 10 by decide) v0).set 1 (show 1 < 10 by decide) v1).set 2 (show 2 < 10 by decide) v2).set 3 (show 3 < 10 by decide) v3).set 4 (show 4 < 10 by decide) v4).set 5 (show 5 < 10 by decide) v5).set 6 (show 6 < 10 by decide) v6).set 7 (show 7 < 10 by decide) v7).set 8 (show 8 < 10 by decide) v8).set 9 (show 9 < 10 by decide) v9
theorem BoxW.b13 {W : World} {p : Nat} {a0 a1 a2 a3 a4 a5 a6 a7 a8 a9 a10 a11 a12 v0 v1 v2 v3 v4 v5 v6 v7 v8 v9 v10 v11 v12 : Value} (h : BoxW W p [a0, a1, a2, a3, a4, a5, a6, a7, a8, a9, a10, a11, a12]) : BoxW (((((((((((((W.setCell ⟨p, 0, none⟩ v0).setCell ⟨p, 1, none⟩ v1).setCell ⟨p, 2, none⟩ v2).setCell ⟨p, 3, none⟩ v3).setCell ⟨p, 4, none⟩ v4).setCell ⟨p, 5, none⟩ v5).setCell ⟨p, 6, none⟩ v6).setCell ⟨p, 7, none⟩ v7).setCell ⟨p, 8, none⟩ v8).setCell ⟨p, 9, none⟩ v9).setCell ⟨p, 10, none⟩ v10).setCell ⟨p, 11, none⟩ v11).setCell ⟨p, 12, none⟩ v12) p [v0, v1, v2, v3, v4, v5, v6, v7, v8, v9, v10, v11, v12] := ((((((((((((h.set 0 (show 0 < 13 by decide) v0).set 1 (show 1 < 13 by decide) v1).set 2 (show 2 < 13 by decide) v2).set 3 (show 3 < 13 by decide) v3).set 4 (show 4 < 13 by decide) v4).set 5 (show 5 < 13 by decide) v5).set 6 (show 6 < 13 by decide) v6).set 7 (show 7 < 13 by decide) v7).set 8 (show 8 < 13 by decide) v8).set 9 (show 9 < 13 by decide) v9).set 10 (show 10 < 13 by decide) v10).set 11 (show 11 < 13 by decide) v11).set 12 (show 12 < 13 by decide) v12
theorem BoxW.b13v {W : World} {p : Nat} {a0 a1 a2 a3 a4 a5 a6 a7 a8 a9 a10 a11 a12 : Value} (h : BoxW W p [a0, a1, a2, a3, a4, a5, a6, a7, a8, a9, a10, a11, a12]) (v0 v1 v2 v3 v4 v5 v6 v7 v8 v9 v10 v11 v12 : Value) : BoxW (((((((((((((W.setCell ⟨p, 0, none⟩ v0).setCell ⟨p, 1, none⟩ v1).setCell ⟨p, 2, none⟩ v2).setCell ⟨p, 3, none⟩ v3).setCell ⟨p, 4, none⟩ v4).setCell ⟨p, 5, none⟩ v5).setCell ⟨p, 6, none⟩ v6).setCell ⟨p, 7, none⟩ v7).setCell ⟨p, 8, none⟩ v8).setCell ⟨p, 9, none⟩ v9).setCell ⟨p, 10, none⟩ v10).setCell ⟨p, 11, none⟩ v11).setCell ⟨p, 12, none⟩ v12) p [v0, v1, v2, v3, v4, v5, v6, v7, v8, v9, v10, v11, v12] := ((((((((((((h.set 0 (show 0 < 13 by decide) v0).set 1 (show 1 < 13 by decide) v1).set 2 (show 2 < 13 by decide) v2).set 3 (show 3 < 13 by decide) v3).set 4 (show 4 < 13 by decide) v4).set 5 (show 5 < 13 by decide) v5).set 6 (show 6 < 13 by decide) v6).set 7 (show 7 < 13 by decide) v7).set 8 (show 8 < 13 by decide) v8).set 9 (show 9 < 13 by decide) v9).set 10 (show 10 < 13 by decide) v10).set 11 (show 11 < 13 by decide) v11).set 12 (show 12 < 13 by decide) v12
theorem BoxW.b13_5_8 {W : World} {p : Nat} {a0 a1 a2 a3 a4 a5 a6 a7 a8 a9 a10 a11 a12 v5 v6 v7 v8 v9 v10 v11 v12 : Value} (h : BoxW W p [a0, a1, a2, a3, a4, a5, a6, a7, a8, a9, a10, a11, a12]) : BoxW ((((((((W.setCell ⟨p, 5, none⟩ v5).setCell ⟨p, 6, none⟩ v6).setCell ⟨p, 7, none⟩ v7).setCell ⟨p, 8, none⟩ v8).setCell ⟨p, 9, none⟩ v9).setCell ⟨p, 10, none⟩ v10).setCell ⟨p, 11, none⟩ v11).setCell ⟨p, 12, none⟩ v12) p [a0, a1, a2, a3, a4, v5, v6, v7, v8, v9, v10, v11, v12] := (((((((h.set 5 (show 5 < 13 by decide) v5).set 6 (show 6 < 13 by decide) v6).set 7 (show 7 < 13 by decide) v7).set 8 (show 8 < 13 by decide) v8).set 9 (show 9 < 13 by decide) v9).set 10 (show 10 < 13 by decide) v10).set 11 (show 11 < 13 by decide) v11).set 12 (show 12 < 13 by decide) v12
theorem BoxW.b13_2_2 {W : World} {p : Nat} {a0 a1 a2 a3 a4 a5 a6 a7 a8 a9 a10 a11 a12 v2 v3 : Value} (h : BoxW W p [a0, a1, a2, a3, a4, a5, a6, a7, a8, a9, a10, a11, a12]) : BoxW ((W.setCell ⟨p, 2, none⟩ v2).setCell ⟨p, 3, none⟩ v3) p [a0, a1, v2, v3, a4, a5, a6, a7, a8, a9, a10, a11, a12] := (h.set 2 (show 2 < 13 by decide) v2).set 3 (show 3 < 13 by decide) v3
theorem Kp.set8 {lo hi : Nat} (W : World) (p : Nat) (h : p < lo ∨ hi ≤ p) (v0 v1 v2 v3 v4 v5 v6 v7 : Value) : Kp lo hi W ((((((((W.setCell ⟨p, 0, none⟩ v0).setCell ⟨p, 1, none⟩ v1).setCell ⟨p, 2, none⟩ v2).setCell ⟨p, 3, none⟩ v3).setCell ⟨p, 4, none⟩ v4).setCell ⟨p, 5, none⟩ v5).setCell ⟨p, 6, none⟩ v6).setCell ⟨p, 7, none⟩ v7) :=
 (Kp.s8 h)
theorem Kp.past {lo hi : Nat} {W W' : World} {q : Nat} (hg : W.grownBy W' (some q)) (hq : hi ≤ q) (hi' : hi ≤ W.heap.size) : Kp lo hi W W' := fun g _ h2 => hg.block g (by omega) (by simp; omega)
theorem atoms_len {ex : Par Ex} (hx : Shrinks ex) : ∀ (n : Nat) (acc : List Ex) (last : Int) (rest : List Tok) (xs : List Ex) (l : Int) (r : List Tok), atomsO ex n acc last rest = .ok xs l r → xs.length + r.length ≤ acc.length + rest.length
 | 0, acc, last, rest, xs, l, r, h => by cases h; exact Nat.le_refl _
 | n + 1, acc, last, rest, xs, l, r, h => by
  unfold atomsO at h
  split at h
  ·cases ho : atomO ex last rest with
   | bad e ln => rw [ho] at h; cases h
   | ok a l2 r2 =>
    rw [ho] at h
    have h1 := atoms_len hx n _ _ _ _ _ _ h
    have h2 := atom_strict hx ho
    simp only [List.length_append, List.length_cons, List.length_nil] at h1
    omega
  ·cases h; exact Nat.le_refl _
theorem row_any (b me ma : Nat) (B : Bx) (n d : Nat) (hEx : ExprC b me ma B n d) (last : Int) (rest : List Tok) (hn : rest.length ≤ n) (hL : rest.length ≤ 4096) (w : World) (hC : Ctx w b me ma B) (hR : Rdr w b me ma last rest d) : Calls Tryz.prog 91 #[.pointer (some ⟨b, 0, none⟩)] w (OutSaid b me ma d (ExV w.heap.size) (rowO (exprO n d) last rest) w) := by
 have hlt : b < w.heap.size := Bl hR.c1
 have hx := (Below.refl w.heap.size w).alloc Nr (.cells #[.int .i64 0, .string ⟨#[]⟩, .bool false, .int .u64 0, .slice none 0 0, .slice none 0 0, .slice none 0 0, .slice none 0 0] 49)
 have HX := Hd (Ai hx (Ai (hR.later hx) (Ai (box8 w b hlt) (hC.later (grown_of hx)))))
 have s1 := HX.out.2.2.2.env.con.1
 have c0 := s1.1
 have c1 := s1.2
 have s2 := HX.out.2.2.2.env.back.1
 have e0 := s2.1
 have e1 := s2.2
 clear hx hR s1 s2
 go_enter Tryz.func91, Tryz.ntmps91
 go_upto_region 1 with fail
 generalize (w.alloc (.cells #[.int .i64 0, .string ⟨#[]⟩, .bool false, .int .u64 0, .slice none 0 0, .slice none 0 0, .slice none 0 0, .slice none 0 0] 49)) = W at *
 have hsz0 : w.heap.size + 1 ≤ W.heap.size := Bl (HX.out.2.2.1 W (grown_of Br)).1
 have HA := Hd (isAhead_any b me ma last rest d sCon W HX.out.2.1)
 have HP := Hd (show rowO (exprO n d) last rest = (atomO (exprO n d) last rest).bind fun a l r => (atomsO (exprO n d) (r.length + 1) [] l r).bind fun xs l2 r2 => .ok (rowE (decide (shapeL rest = sCon ∨ shapeL rest = sBack)) a xs) l2 r2 from rfl)
 go_wp2_with fail
 refine HA.out.mono ?_
 rintro e w1 ⟨rfl, hb1⟩
 have H1 := Hd hb1
 by_cases gc : shapeL rest = sCon
 ·rw [decide_eq_true gc]
  have HT := Hd (show decide (shapeL rest = sCon ∨ shapeL rest = sBack) = true from decide_eq_true (Or.inl gc))
  clear HA hb1 c0 c1 e0 e1 gc
  have HAt := Hd (atom_any b me ma B n d hEx last rest hn hL w1 (HX.out.2.2.2.later (grown_of H1.out)) (HX.out.2.1.later H1.out))
  go_wp2_with fail
  refine HAt.out.mono ?_
  rintro e w3 h3
  have hsz1 : W.heap.size ≤ w1.heap.size := H1.out.size
  cases ho : atomO (exprO n d) last rest with
  | bad er ln =>
   rw [ho] at h3
   obtain ⟨hbr, hg3⟩ := h3
   have hp := HP.out
   rw [ho] at hp
   have H3 := Hd (Ai hp (Gt (Gt (grown_of (b := b) HX.out.1) (grown_of H1.out)) hg3))
   unfold Broken at hbr
   subst hbr
   clear hg3 ho hp HAt
   go_wp2_with fail
   refine ⟨rfl, ?_⟩
   rw [H3.out.1]
   exact ⟨rfl, H3.out.2⟩
  | ok a l r =>
   rw [ho] at h3
   obtain ⟨⟨k, nm, f, u, vp, vk, vb, va, rfl, hat⟩, hR3, hg3⟩ := h3
   obtain ⟨⟨ap, np, cp, rfl⟩, ⟨ak, nk, ck, rfl⟩, ⟨ab, nb, cb, rfl⟩, ⟨aa, na, ca, rfl⟩⟩ := hat.slices
   have hp := HP.out
   rw [ho, bind_ok] at hp
   have hst := atom_strict (expr_shrinks n d) ho
   have hy3 := (Below.refl w3.heap.size w3).alloc Nr (.cells #[.int .i64 k, .string nm, .bool f, .int .u64 u, .slice ap np cp, .slice ak nk ck, .slice ab nb cb, .slice aa na ca] 49)
   have hgW := Gt (Gt (grown_of (b := b) H1.out) hg3) (grown_of (b := b) hy3)
   have hsz3 : w1.heap.size ≤ w3.heap.size := hg3.size
   have hb3 : b < w3.heap.size := by omega
   have hBq := BoxW.alloc w3 #[.int .i64 k, .string nm, .bool f, .int .u64 u, .slice ap np cp, .slice ak nk ck, .slice ab nb cb, .slice aa na ca] 49
   have H3 := Hd (Ai hp (Ai (hR3.later hy3) (Ai hgW (Ai (HX.out.2.2.2.later hgW) (Ai hat (Ai hy3 hBq))))))
   have hszq : w3.heap.size + 1 ≤ (w3.alloc (.cells #[.int .i64 k, .string nm, .bool f, .int .u64 u, .slice ap np cp, .slice ak nk ck, .slice ab nb cb, .slice aa na ca] 49)).heap.size := by simp
   clear HP HAt ho hp hR3 hg3 hat hgW hy3 hBq
   go_upto_region 3 with fail
   generalize (w3.alloc (.cells #[.int .i64 k, .string nm, .bool f, .int .u64 u, .slice ap np cp, .slice ak nk ck, .slice ab nb cb, .slice aa na ca] 49)) = W4 at *
   have HAs := Hd (atoms_any b me ma B n d hEx l r (by omega) (by omega) W4 H3.out.2.2.2.1 H3.out.2.1)
   have HP := Hd H3.out.1
   go_wp2_with fail
   refine HAs.out.mono ?_
   rintro e w5 h5
   cases ho : atomsO (exprO n d) (r.length + 1) [] l r with
   | bad er ln =>
    rw [ho] at h5
    obtain ⟨hbr, hg5⟩ := h5
    have hp := HP.out
    rw [ho] at hp
    have H5 := Hd (Ai hp (Gt (Gt (grown_of (b := b) HX.out.1) H3.out.2.2.1) hg5))
    unfold Broken at hbr
    subst hbr
    clear hg5 ho hp HAs
    go_wp2_with fail
    refine ⟨rfl, ?_⟩
    rw [H5.out.1]
    exact ⟨rfl, H5.out.2⟩
   | ok xs l2 r2 =>
    rw [ho] at h5
    obtain ⟨⟨v, cs, rfl, hown, hexs⟩, hR5, hg5⟩ := h5
    obtain ⟨ao, co, rfl, hlow⟩ := own_shape hown
    have hp := HP.out
    rw [ho, bind_ok, HT.out] at hp
    have hln := atoms_len (expr_shrinks n d) _ _ _ _ _ _ _ ho
    simp only [List.length_nil, Nat.zero_add] at hln
    have hBq := H3.out.2.2.2.2.2.2.grown hg5 (by omega)
    have hgW5 := Gt H3.out.2.2.1 hg5
    have hsz5 : W4.heap.size ≤ w5.heap.size := hg5.size
    have hka : Kp w1.heap.size w3.heap.size w3 w5 := (Kp.below H3.out.2.2.2.2.2.1 Nr).trans (Kp.grown hg5 (by omega) (by omega))
    have H5 := Hd (Ai hp (Ai hR5 (Ai hgW5 (Ai hBq (Ai hown (Ai hexs hka))))))
    have z5 := hBq.2 5
    obtain ⟨q0, q1, q2, q3, q4, q5, q6, q7⟩ := (hBq).q8
    clear HP HAs ho hp hown hexs hR5 hg5 hBq hgW5 hka
    go_upto_region 6 with fail
    have hBq := H5.out.2.2.2.1.set 5 (show 5 < 8 by decide) (.slice ao xs.length co)
    have hgW6 := grown_new H5.out.2.2.1 (p := w3.heap.size) (i := 5) (by omega) (.slice ao xs.length co)
    have hR6 := H5.out.2.1.over (p := w3.heap.size) (i := 5) (by omega) (.slice ao xs.length co)
    have hka : Kp w1.heap.size w3.heap.size w3 (w5.setCell ⟨w3.heap.size, 5, none⟩ (.slice ao xs.length co)) := H5.out.2.2.2.2.2.2.trans (Kp.set _ _ _ _ (Or.inr Nr))
    have hkx : Kp W4.heap.size w5.heap.size w5 (w5.setCell ⟨w3.heap.size, 5, none⟩ (.slice ao xs.length co)) := Kp.set _ _ _ _ (Or.inl (by omega))
    clear q0 q1 q2 q3 q4 q5 q6 q7 z5
    generalize (w5.setCell ⟨w3.heap.size, 5, none⟩ (.slice ao xs.length co)) = W6 at *
    obtain ⟨q0, q1, q2, q3, q4, q5, q6, q7⟩ := (hBq).q8
    obtain ⟨d0, d1, d2, d3, d4, d5, d6, d7, z0, z1, z2, z3, z4, z5, z6, z7⟩ := HX.out.2.2.1 W6 hgW6
    have H6 := Hd (Ai hR6 (Ai hgW6 (Ai hka hkx)))
    clear hBq hR6 hgW6 hka hkx
    go_wp2_with fail
    obtain ⟨v0, v1, v2, v3, v4, v5, v6, v7⟩ := set8 d0 d1 d2 d3 d4 d5 d6 d7 (.int .i64 k) (.string nm) (.bool f) (.int .u64 u) (.slice ap np cp) (.slice ao xs.length co) (.slice ab nb cb) (.slice aa na ca)
    refine bodyPost_ret (v := .agg #[.int .i64 k, .string nm, .bool f, .int .u64 u, .slice ap np cp, .slice ao xs.length co, .slice ab nb cb, .slice aa na ca]) (by simp [results, Tryz.results91, go_sem, v0, v1, v2, v3, v4, v5, v6, v7]) rfl ?_
    rw [H5.out.1]
    have hs := Or.inl (a := w.heap.size < w1.heap.size) (b := w3.heap.size ≤ w.heap.size) (by omega)
    have hs2 := Or.inl (a := w.heap.size < W4.heap.size) (b := w5.heap.size ≤ w.heap.size) (by omega)
    refine ⟨⟨_, _, _, _, _, _, _, _, rfl, ?_⟩, H6.out.1.over8 hlt _ _ _ _ _ _ _ _, grown_new8 (Gt (grown_of (b := b) HX.out.1) H6.out.2.1) Nr _ _ _ _ _ _ _ _⟩
    exact (H3.out.2.2.2.2.1.kp (H6.out.2.2.1.trans (Kp.set8 _ _ hs _ _ _ _ _ _ _ _)) (by omega)).withKids ((RowAt.own H5.out.2.2.2.2.1).kp (H6.out.2.2.2.trans (Kp.set8 _ _ hs2 _ _ _ _ _ _ _ _)) (by omega)) (H5.out.2.2.2.2.2.1.kp (H6.out.2.2.2.trans (Kp.set8 _ _ hs2 _ _ _ _ _ _ _ _)) (by omega))
 ·rw [decide_eq_false gc]
  have HG := Hd gc
  have e2 := later' hb1 e0
  have e3 := later' hb1 e1
  have HA2 := Hd (isAhead_any b me ma last rest d sBack w1 (HX.out.2.1.later H1.out))
  clear HA hb1 c0 c1 e0 e1 gc
  go_wp2_with fail
  refine HA2.out.mono ?_
  rintro e w2 ⟨rfl, hb2⟩
  have H2 := Hd (onB' H1.out hb2)
  clear H1
  have H1 := H2
  clear H2
  by_cases gb : shapeL rest = sBack
  ·rw [decide_eq_true gb]
   have HT := Hd (show decide (shapeL rest = sCon ∨ shapeL rest = sBack) = true from decide_eq_true (Or.inr gb))
   clear HA2 hb2 e2 e3 gb
   have HAt := Hd (atom_any b me ma B n d hEx last rest hn hL w2 (HX.out.2.2.2.later (grown_of H1.out)) (HX.out.2.1.later H1.out))
   go_wp2_with fail
   refine HAt.out.mono ?_
   rintro e w3 h3
   have hsz1 : W.heap.size ≤ w2.heap.size := H1.out.size
   cases ho : atomO (exprO n d) last rest with
   | bad er ln =>
    rw [ho] at h3
    obtain ⟨hbr, hg3⟩ := h3
    have hp := HP.out
    rw [ho] at hp
    have H3 := Hd (Ai hp (Gt (Gt (grown_of (b := b) HX.out.1) (grown_of H1.out)) hg3))
    unfold Broken at hbr
    subst hbr
    clear hg3 ho hp HAt
    go_wp2_with fail
    refine ⟨rfl, ?_⟩
    rw [H3.out.1]
    exact ⟨rfl, H3.out.2⟩
   | ok a l r =>
    rw [ho] at h3
    obtain ⟨⟨k, nm, f, u, vp, vk, vb, va, rfl, hat⟩, hR3, hg3⟩ := h3
    obtain ⟨⟨ap, np, cp, rfl⟩, ⟨ak, nk, ck, rfl⟩, ⟨ab, nb, cb, rfl⟩, ⟨aa, na, ca, rfl⟩⟩ := hat.slices
    have hp := HP.out
    rw [ho, bind_ok] at hp
    have hst := atom_strict (expr_shrinks n d) ho
    have hy3 := (Below.refl w3.heap.size w3).alloc Nr (.cells #[.int .i64 k, .string nm, .bool f, .int .u64 u, .slice ap np cp, .slice ak nk ck, .slice ab nb cb, .slice aa na ca] 49)
    have hgW := Gt (Gt (grown_of (b := b) H1.out) hg3) (grown_of (b := b) hy3)
    have hsz3 : w2.heap.size ≤ w3.heap.size := hg3.size
    have hb3 : b < w3.heap.size := by omega
    have hBq := BoxW.alloc w3 #[.int .i64 k, .string nm, .bool f, .int .u64 u, .slice ap np cp, .slice ak nk ck, .slice ab nb cb, .slice aa na ca] 49
    have H3 := Hd (Ai hp (Ai (hR3.later hy3) (Ai hgW (Ai (HX.out.2.2.2.later hgW) (Ai hat (Ai hy3 hBq))))))
    have hszq : w3.heap.size + 1 ≤ (w3.alloc (.cells #[.int .i64 k, .string nm, .bool f, .int .u64 u, .slice ap np cp, .slice ak nk ck, .slice ab nb cb, .slice aa na ca] 49)).heap.size := by simp
    clear HP HAt ho hp hR3 hg3 hat hgW hy3 hBq
    go_upto_region 3 with fail
    generalize (w3.alloc (.cells #[.int .i64 k, .string nm, .bool f, .int .u64 u, .slice ap np cp, .slice ak nk ck, .slice ab nb cb, .slice aa na ca] 49)) = W4 at *
    have HAs := Hd (atoms_any b me ma B n d hEx l r (by omega) (by omega) W4 H3.out.2.2.2.1 H3.out.2.1)
    have HP := Hd H3.out.1
    go_wp2_with fail
    refine HAs.out.mono ?_
    rintro e w5 h5
    cases ho : atomsO (exprO n d) (r.length + 1) [] l r with
    | bad er ln =>
     rw [ho] at h5
     obtain ⟨hbr, hg5⟩ := h5
     have hp := HP.out
     rw [ho] at hp
     have H5 := Hd (Ai hp (Gt (Gt (grown_of (b := b) HX.out.1) H3.out.2.2.1) hg5))
     unfold Broken at hbr
     subst hbr
     clear hg5 ho hp HAs
     go_wp2_with fail
     refine ⟨rfl, ?_⟩
     rw [H5.out.1]
     exact ⟨rfl, H5.out.2⟩
    | ok xs l2 r2 =>
     rw [ho] at h5
     obtain ⟨⟨v, cs, rfl, hown, hexs⟩, hR5, hg5⟩ := h5
     obtain ⟨ao, co, rfl, hlow⟩ := own_shape hown
     have hp := HP.out
     rw [ho, bind_ok, HT.out] at hp
     have hln := atoms_len (expr_shrinks n d) _ _ _ _ _ _ _ ho
     simp only [List.length_nil, Nat.zero_add] at hln
     have hBq := H3.out.2.2.2.2.2.2.grown hg5 (by omega)
     have hgW5 := Gt H3.out.2.2.1 hg5
     have hsz5 : W4.heap.size ≤ w5.heap.size := hg5.size
     have hka : Kp w2.heap.size w3.heap.size w3 w5 := (Kp.below H3.out.2.2.2.2.2.1 Nr).trans (Kp.grown hg5 (by omega) (by omega))
     have H5 := Hd (Ai hp (Ai hR5 (Ai hgW5 (Ai hBq (Ai hown (Ai hexs hka))))))
     have z5 := hBq.2 5
     obtain ⟨q0, q1, q2, q3, q4, q5, q6, q7⟩ := (hBq).q8
     clear HP HAs ho hp hown hexs hR5 hg5 hBq hgW5 hka
     go_upto_region 6 with fail
     have hBq := H5.out.2.2.2.1.set 5 (show 5 < 8 by decide) (.slice ao xs.length co)
     have hgW6 := grown_new H5.out.2.2.1 (p := w3.heap.size) (i := 5) (by omega) (.slice ao xs.length co)
     have hR6 := H5.out.2.1.over (p := w3.heap.size) (i := 5) (by omega) (.slice ao xs.length co)
     have hka : Kp w2.heap.size w3.heap.size w3 (w5.setCell ⟨w3.heap.size, 5, none⟩ (.slice ao xs.length co)) := H5.out.2.2.2.2.2.2.trans (Kp.set _ _ _ _ (Or.inr Nr))
     have hkx : Kp W4.heap.size w5.heap.size w5 (w5.setCell ⟨w3.heap.size, 5, none⟩ (.slice ao xs.length co)) := Kp.set _ _ _ _ (Or.inl (by omega))
     clear q0 q1 q2 q3 q4 q5 q6 q7 z5
     generalize (w5.setCell ⟨w3.heap.size, 5, none⟩ (.slice ao xs.length co)) = W6 at *
     obtain ⟨q0, q1, q2, q3, q4, q5, q6, q7⟩ := (hBq).q8
     obtain ⟨d0, d1, d2, d3, d4, d5, d6, d7, z0, z1, z2, z3, z4, z5, z6, z7⟩ := HX.out.2.2.1 W6 hgW6
     have H6 := Hd (Ai hR6 (Ai hgW6 (Ai hka hkx)))
     clear hBq hR6 hgW6 hka hkx
     go_wp2_with fail
     obtain ⟨v0, v1, v2, v3, v4, v5, v6, v7⟩ := set8 d0 d1 d2 d3 d4 d5 d6 d7 (.int .i64 k) (.string nm) (.bool f) (.int .u64 u) (.slice ap np cp) (.slice ao xs.length co) (.slice ab nb cb) (.slice aa na ca)
     refine bodyPost_ret (v := .agg #[.int .i64 k, .string nm, .bool f, .int .u64 u, .slice ap np cp, .slice ao xs.length co, .slice ab nb cb, .slice aa na ca]) (by simp [results, Tryz.results91, go_sem, v0, v1, v2, v3, v4, v5, v6, v7]) rfl ?_
     rw [H5.out.1]
     have hs := Or.inl (a := w.heap.size < w2.heap.size) (b := w3.heap.size ≤ w.heap.size) (by omega)
     have hs2 := Or.inl (a := w.heap.size < W4.heap.size) (b := w5.heap.size ≤ w.heap.size) (by omega)
     refine ⟨⟨_, _, _, _, _, _, _, _, rfl, ?_⟩, H6.out.1.over8 hlt _ _ _ _ _ _ _ _, grown_new8 (Gt (grown_of (b := b) HX.out.1) H6.out.2.1) Nr _ _ _ _ _ _ _ _⟩
     exact (H3.out.2.2.2.2.1.kp (H6.out.2.2.1.trans (Kp.set8 _ _ hs _ _ _ _ _ _ _ _)) (by omega)).withKids ((RowAt.own H5.out.2.2.2.2.1).kp (H6.out.2.2.2.trans (Kp.set8 _ _ hs2 _ _ _ _ _ _ _ _)) (by omega)) (H5.out.2.2.2.2.2.1.kp (H6.out.2.2.2.trans (Kp.set8 _ _ hs2 _ _ _ _ _ _ _ _)) (by omega))
  ·rw [decide_eq_false gb]
   have HT := Hd (show decide (shapeL rest = sCon ∨ shapeL rest = sBack) = false from decide_eq_false (by rintro (h | h); exact HG.out h; exact gb h))
   clear HA2 hb2 e2 e3 gb
   have HAt := Hd (atom_any b me ma B n d hEx last rest hn hL w2 (HX.out.2.2.2.later (grown_of H1.out)) (HX.out.2.1.later H1.out))
   go_wp2_with fail
   refine HAt.out.mono ?_
   rintro e w3 h3
   have hsz1 : W.heap.size ≤ w2.heap.size := H1.out.size
   cases ho : atomO (exprO n d) last rest with
   | bad er ln =>
    rw [ho] at h3
    obtain ⟨hbr, hg3⟩ := h3
    have hp := HP.out
    rw [ho] at hp
    have H3 := Hd (Ai hp (Gt (Gt (grown_of (b := b) HX.out.1) (grown_of H1.out)) hg3))
    unfold Broken at hbr
    subst hbr
    clear hg3 ho hp HAt
    go_wp2_with fail
    refine ⟨rfl, ?_⟩
    rw [H3.out.1]
    exact ⟨rfl, H3.out.2⟩
   | ok a l r =>
    rw [ho] at h3
    obtain ⟨⟨k, nm, f, u, vp, vk, vb, va, rfl, hat⟩, hR3, hg3⟩ := h3
    obtain ⟨⟨ap, np, cp, rfl⟩, ⟨ak, nk, ck, rfl⟩, ⟨ab, nb, cb, rfl⟩, ⟨aa, na, ca, rfl⟩⟩ := hat.slices
    have hp := HP.out
    rw [ho, bind_ok] at hp
    have hst := atom_strict (expr_shrinks n d) ho
    have hy3 := (Below.refl w3.heap.size w3).alloc Nr (.cells #[.int .i64 k, .string nm, .bool f, .int .u64 u, .slice ap np cp, .slice ak nk ck, .slice ab nb cb, .slice aa na ca] 49)
    have hgW := Gt (Gt (grown_of (b := b) H1.out) hg3) (grown_of (b := b) hy3)
    have hsz3 : w2.heap.size ≤ w3.heap.size := hg3.size
    have hb3 : b < w3.heap.size := by omega
    have hBq := BoxW.alloc w3 #[.int .i64 k, .string nm, .bool f, .int .u64 u, .slice ap np cp, .slice ak nk ck, .slice ab nb cb, .slice aa na ca] 49
    have H3 := Hd (Ai hp (Ai (hR3.later hy3) (Ai hgW (Ai (HX.out.2.2.2.later hgW) (Ai hat (Ai hy3 hBq))))))
    have hszq : w3.heap.size + 1 ≤ (w3.alloc (.cells #[.int .i64 k, .string nm, .bool f, .int .u64 u, .slice ap np cp, .slice ak nk ck, .slice ab nb cb, .slice aa na ca] 49)).heap.size := by simp
    clear HP HAt ho hp hR3 hg3 hat hgW hy3 hBq
    go_upto_region 3 with fail
    generalize (w3.alloc (.cells #[.int .i64 k, .string nm, .bool f, .int .u64 u, .slice ap np cp, .slice ak nk ck, .slice ab nb cb, .slice aa na ca] 49)) = W4 at *
    have HAs := Hd (atoms_any b me ma B n d hEx l r (by omega) (by omega) W4 H3.out.2.2.2.1 H3.out.2.1)
    have HP := Hd H3.out.1
    go_wp2_with fail
    refine HAs.out.mono ?_
    rintro e w5 h5
    cases ho : atomsO (exprO n d) (r.length + 1) [] l r with
    | bad er ln =>
     rw [ho] at h5
     obtain ⟨hbr, hg5⟩ := h5
     have hp := HP.out
     rw [ho] at hp
     have H5 := Hd (Ai hp (Gt (Gt (grown_of (b := b) HX.out.1) H3.out.2.2.1) hg5))
     unfold Broken at hbr
     subst hbr
     clear hg5 ho hp HAs
     go_wp2_with fail
     refine ⟨rfl, ?_⟩
     rw [H5.out.1]
     exact ⟨rfl, H5.out.2⟩
    | ok xs l2 r2 =>
     rw [ho] at h5
     obtain ⟨⟨v, cs, rfl, hown, hexs⟩, hR5, hg5⟩ := h5
     obtain ⟨ao, co, rfl, hlow⟩ := own_shape hown
     have hp := HP.out
     rw [ho, bind_ok, HT.out] at hp
     have hln := atoms_len (expr_shrinks n d) _ _ _ _ _ _ _ ho
     simp only [List.length_nil, Nat.zero_add] at hln
     have hBq := H3.out.2.2.2.2.2.2.grown hg5 (by omega)
     have hgW5 := Gt H3.out.2.2.1 hg5
     have hsz5 : W4.heap.size ≤ w5.heap.size := hg5.size
     have hka : Kp w2.heap.size w3.heap.size w3 w5 := (Kp.below H3.out.2.2.2.2.2.1 Nr).trans (Kp.grown hg5 (by omega) (by omega))
     have H5 := Hd (Ai hp (Ai hR5 (Ai hgW5 (Ai hBq (Ai hown (Ai hexs hka))))))
     obtain ⟨q0, q1, q2, q3, q4, q5, q6, q7⟩ := (hBq).q8
     clear HP HAs ho hp hown hexs hR5 hg5 hBq hgW5 hka
     cases xs with
     | nil =>
      obtain ⟨d0, d1, d2, d3, d4, d5, d6, d7, z0, z1, z2, z3, z4, z5, z6, z7⟩ := HX.out.2.2.1 w5 H5.out.2.2.1
      simp only [List.length_nil] at *
      go_wp2_with fail
      obtain ⟨v0, v1, v2, v3, v4, v5, v6, v7⟩ := set8 d0 d1 d2 d3 d4 d5 d6 d7 (.int .i64 k) (.string nm) (.bool f) (.int .u64 u) (.slice ap np cp) (.slice ak nk ck) (.slice ab nb cb) (.slice aa na ca)
      refine bodyPost_ret (v := .agg #[.int .i64 k, .string nm, .bool f, .int .u64 u, .slice ap np cp, .slice ak nk ck, .slice ab nb cb, .slice aa na ca]) (by simp [results, Tryz.results91, go_sem, v0, v1, v2, v3, v4, v5, v6, v7]) rfl ?_
      rw [H5.out.1]
      have hs := Or.inl (a := w.heap.size < w2.heap.size) (b := w3.heap.size ≤ w.heap.size) (by omega)
      refine ⟨⟨_, _, _, _, _, _, _, _, rfl, ?_⟩, H5.out.2.1.over8 hlt _ _ _ _ _ _ _ _, grown_new8 (Gt (grown_of (b := b) HX.out.1) H5.out.2.2.1) Nr _ _ _ _ _ _ _ _⟩
      exact H3.out.2.2.2.2.1.kp (H5.out.2.2.2.2.2.2.trans (Kp.set8 _ _ hs _ _ _ _ _ _ _ _)) (by omega)
     | cons x xs =>
      simp only [List.length_cons] at *
      have hao : ∃ ad, ao = some ad := by
       obtain ⟨h0, ⟨h, h'⟩ | ⟨g, cap, cur, h, _⟩⟩ := H5.out.2.2.2.2.1
       ·cases h'
       ·cases h; exact ⟨_, rfl⟩
      obtain ⟨ad, rfl⟩ := hao
      obtain ⟨i0, hi0, hz0, hzs, hzb⟩ := info_parts Tryz.info_expr
      have f0 : ((xs.length : Int) + 1 == 0) = false := by simp; omega
      have one8 := H5.out.2.2.2.2.2.1.one
      have hlc := H5.out.2.2.2.2.2.1.len
      have m9 : 1 + (xs.length + 1) ≤ maxLen := by unfold maxLen; omega
      have m8 : (1 + (xs.length + 1)) * 136 ≤ 140737488355328 := by omega
      have hy5 := (Below.refl w5.heap.size w5).alloc Nr (.cells #[.int .i64 k, .string nm, .bool f, .int .u64 u, .slice ap np cp, .slice ak nk ck, .slice ab nb cb, .slice aa na ca] 49)
      have hb1 := own_built (W := (w5.alloc (.cells #[.int .i64 k, .string nm, .bool f, .int .u64 u, .slice ap np cp, .slice ak nk ck, .slice ab nb cb, .slice aa na ca] 49))) (g := w5.heap.size) (base := w5.heap.size) (e := 49) (size := 8) (n := 1) (cs := #[.int .i64 k, .string nm, .bool f, .int .u64 u, .slice ap np cp, .slice ak nk ck, .slice ab nb cb, .slice aa na ca]) (heap_alloc_new _ _) Nr rfl (by decide)
      have hnw := own_news (own_below H5.out.2.2.2.2.1 hy5)
      have hob := Hd (show ∀ g, (Value.slice (some ⟨w5.heap.size, 0, none⟩) 1 1).ownBlock = some g → W.heap.size ≤ g from fun g e => by have h : w5.heap.size = g := Oi e; omega)
      go_wp2_with (at_builtin; refine wpList_append_lies _ rfl _ _ 46 rfl w5.heap.size 49 i0 (.agg #[.int .i64 0, .string ⟨#[]⟩, .bool false, .int .u64 0, .slice none 0 0, .slice none 0 0, .slice none 0 0, .slice none 0 0]) 8 136 Tryz.underlying46 hi0 hz0 hzs hzb rfl (by decide) (.slice (some ⟨w5.heap.size, 0, none⟩) 1 1) 1 _ rfl hb1 ad (xs.length + 1) co cs (by rfl) hlc hnw one8 (by omega) m9 m8 (by simp) _ rfl ?_; intro g9 cap9 w9 o1 o2 o3 o4; have hg9 : W.grownBy w9 (some b) := grown_past (Gt H5.out.2.2.1 (grown_of (b := b) hy5)) o2 hob.out; obtain ⟨d0, d1, d2, d3, d4, d5, d6, d7, z0, z1, z2, z3, z4, z5, z6, z7⟩ := HX.out.2.2.1 w9 hg9; have H9 := Hd (Ai hg9 (Ai o1 (Ai o2 o3))); clear hg9 o1 o2 o3 o4)
      obtain ⟨v0, v1, v2, v3, v4, v5, v6, v7⟩ := set8 d0 d1 d2 d3 d4 d5 d6 d7 (.int .i64 4) (.string ⟨#[]⟩) (.bool false) (.int .u64 0) (.slice none 0 0) (.slice (some ⟨g9, 0, none⟩) (1 + (xs.length + 1)) cap9) (.slice none 0 0) (.slice none 0 0)
      refine bodyPost_ret (v := .agg #[.int .i64 4, .string ⟨#[]⟩, .bool false, .int .u64 0, .slice none 0 0, .slice (some ⟨g9, 0, none⟩) (1 + (xs.length + 1)) cap9, .slice none 0 0, .slice none 0 0]) (by simp [results, Tryz.results91, go_sem, v0, v1, v2, v3, v4, v5, v6, v7]) rfl ?_
      rw [H5.out.1]
      have hs := Or.inl (a := w.heap.size < w2.heap.size) (b := w3.heap.size ≤ w.heap.size) (by omega)
      have hs2 := Or.inl (a := w.heap.size < W4.heap.size) (b := w5.heap.size ≤ w.heap.size) (by omega)
      have hs5 := hy5.size
      have hs9 := H9.out.2.2.1.size
      have hs3 := Or.inl (a := w.heap.size < w5.heap.size) (b := w9.heap.size ≤ w.heap.size) (by omega)
      have hka : Kp w2.heap.size w3.heap.size w3 w9 := (H5.out.2.2.2.2.2.2.trans (Kp.below hy5 (by omega))).trans (Kp.past (q := w5.heap.size) H9.out.2.2.1 (by omega) (by omega))
      have hkx : Kp W4.heap.size w5.heap.size w5 w9 := (Kp.below hy5 (by omega)).trans (Kp.past (q := w5.heap.size) H9.out.2.2.1 (by omega) (by omega))
      refine ⟨⟨_, _, _, _, _, _, _, _, rfl, ?_⟩, ((H5.out.2.1.later hy5).past (q := w5.heap.size) H9.out.2.2.1 (by omega)).over8 hlt _ _ _ _ _ _ _ _, grown_new8 (Gt (grown_of (b := b) HX.out.1) H9.out.1) Nr _ _ _ _ _ _ _ _⟩
      refine ExAt.kids (xs := a :: x :: xs) (cs := _) 4 [] (RowAt.kp (lo := w5.heap.size) ?_ (Kp.set8 _ _ hs3 _ _ _ _ _ _ _ _) (by omega)) (ExsAt.cons a (x :: xs) _ cs (H3.out.2.2.2.2.1.kp (hka.trans (Kp.set8 _ _ hs _ _ _ _ _ _ _ _)) (by omega)) (H5.out.2.2.2.2.2.1.kp (hkx.trans (Kp.set8 _ _ hs2 _ _ _ _ _ _ _ _)) (by omega)))
      have h9 := RowAt.own H9.out.2.1
      rw [show 1 + (xs.length + 1) = (a :: x :: xs).length by simp; omega] at h9 ⊢
      exact h9
end Go.Proofs.YtbnmmbjajheedaaGreatDoor
