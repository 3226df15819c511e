import Derived.Test.YtbnmmbjajheedaaGreatDoorMg7
/- An alternative. -/
namespace Go.Proofs.YtbnmmbjajheedaaGreatDoor
open Go.RowKit Go.Lib


def AltV (lo : Nat) (x : Alt) (e : Ending) (w : World) : Prop :=
  ∃ vp k n f u vq vk vb va, e = .returned (.agg #[.int .i64 x.1, .string (tx x.2.1), .bool x.2.2.1, .int .u64 x.2.2.2.1, vp, .int .i64 k, .string n, .bool f, .int .u64 u, vq, vk, vb, va]) ∧ RowAt w (fun g => lo ≤ g) 9 1 vp x.2.2.2.2.1.length (namesV x.2.2.2.2.1) ∧ ExAt w (fun g => lo ≤ g) x.2.2.2.2.2 [.int .i64 k, .string n, .bool f, .int .u64 u, vq, vk, vb, va]
set_option maxHeartbeats 8000000 in
set_option maxRecDepth 100000 in
theorem alt_any (b me ma : Nat) (B : Bx) (n d : Nat) (hEx : ExprC b me ma B n d) (last : Int) (rest : List Tok) (hn : rest.length ≤ n) (hL : rest.length ≤ 4096) (w : World) (hC : Ctx w b me ma B) (hR : Rdr w b me ma last rest d) : Calls Tryz.prog 125 #[.pointer (some ⟨b, 0, none⟩)] w (OutSaid b me ma d (AltV w.heap.size) (altO (exprO n d) last rest) w) := by
  have hlt : b < w.heap.size := World.block_lt_of_cell? _ _ hR.c1
  have hx := (Below.refl w.heap.size w).alloc (Nat.le_refl _) (.cells #[.int .i64 0, .string ⟨#[]⟩, .bool false, .int .u64 0, .slice none 0 0, .int .i64 0, .string ⟨#[]⟩, .bool false, .int .u64 0, .slice none 0 0, .slice none 0 0, .slice none 0 0, .slice none 0 0] 87)
  have hBp := BoxW.alloc w #[.int .i64 0, .string ⟨#[]⟩, .bool false, .int .u64 0, .slice none 0 0, .int .i64 0, .string ⟨#[]⟩, .bool false, .int .u64 0, .slice none 0 0, .slice none 0 0, .slice none 0 0, .slice none 0 0] 87
  have HX := Lib.hid (And.intro hx (And.intro (hR.later hx) (And.intro hBp (hC.later (grown_of hx)))))
  have hsz0 : w.heap.size + 1 ≤ (w.alloc (.cells #[.int .i64 0, .string ⟨#[]⟩, .bool false, .int .u64 0, .slice none 0 0, .int .i64 0, .string ⟨#[]⟩, .bool false, .int .u64 0, .slice none 0 0, .slice none 0 0, .slice none 0 0, .slice none 0 0] 87)).heap.size := by simp
  clear hx hR hBp
  go_enter Tryz.func125, Tryz.ntmps125
  go_upto_region 1 with fail
  generalize (w.alloc (.cells #[.int .i64 0, .string ⟨#[]⟩, .bool false, .int .u64 0, .slice none 0 0, .int .i64 0, .string ⟨#[]⟩, .bool false, .int .u64 0, .slice none 0 0, .slice none 0 0, .slice none 0 0, .slice none 0 0] 87)) = W at *
  have HP := Lib.hid (show altO (exprO n d) last rest = if shapeL rest = sCon then (takeO last rest).bind fun t l r => (wantO sArrow (namesO l r []).2.1 (namesO l r []).2.2).bind fun _ l2 r2 => (exprO n d l2 r2).bind fun x l3 r3 => .ok (0, t.1.t, false, 0, (namesO l r []).1, x) l3 r3 else if shapeL rest = sNum then (takeO last rest).bind fun t l r => (wantO sArrow l r).bind fun _ l2 r2 => (exprO n d l2 r2).bind fun x l3 r3 => .ok (1, [], t.1.f, t.1.x, [], x) l3 r3 else (wantO sName last rest).bind fun t l r => (wantO sArrow l r).bind fun _ l2 r2 => (exprO n d l2 r2).bind fun x l3 r3 => .ok (2, t.1.t, false, 0, [], x) l3 r3 from rfl)
  have H0 := Lib.hid (And.intro HX.out.2.1 (And.intro (grown_of (b := b) (Below.refl W.heap.size W)) HX.out.2.2.2))
  have hy := (Below.refl W.heap.size W).alloc (Nat.le_refl _) (.cells #[.int .i64 0, .string ⟨#[]⟩, .bool false, .int .u64 0, .slice none 0 0, .int .i64 0, .string ⟨#[]⟩, .bool false, .int .u64 0, .slice none 0 0, .slice none 0 0, .slice none 0 0, .slice none 0 0] 87)
  have hBq := BoxW.alloc W #[.int .i64 0, .string ⟨#[]⟩, .bool false, .int .u64 0, .slice none 0 0, .int .i64 0, .string ⟨#[]⟩, .bool false, .int .u64 0, .slice none 0 0, .slice none 0 0, .slice none 0 0, .slice none 0 0] 87
  have HBq := Lib.hid hBq
  have hg := grown_of (b := b) hy
  have hgW := grown_trans H0.out.2.1 hg
  have HG1 := Lib.hid hg
  have hsz1 : W.heap.size + 1 ≤ (W.alloc (.cells #[.int .i64 0, .string ⟨#[]⟩, .bool false, .int .u64 0, .slice none 0 0, .int .i64 0, .string ⟨#[]⟩, .bool false, .int .u64 0, .slice none 0 0, .slice none 0 0, .slice none 0 0, .slice none 0 0] 87)).heap.size := by simp
  have H1 := Lib.hid (And.intro (H0.out.1.later hy) (And.intro hgW (HX.out.2.2.2.later hgW)))
  clear hg hgW hy hBq
  go_upto_region 3 with fail
  generalize (W.alloc (.cells #[.int .i64 0, .string ⟨#[]⟩, .bool false, .int .u64 0, .slice none 0 0, .int .i64 0, .string ⟨#[]⟩, .bool false, .int .u64 0, .slice none 0 0, .slice none 0 0, .slice none 0 0, .slice none 0 0] 87)) = w1 at *
  have c0 := H1.out.2.2.env.con.1.1
  have c1 := H1.out.2.2.env.con.1.2
  have HC := Lib.hid (isAhead_any b me ma last rest d sCon w1 H1.out.1)
  go_wp2_with fail
  refine HC.out.mono ?_
  rintro e w2 ⟨rfl, hb⟩
  have hg := grown_of (b := b) hb
  have hgW := grown_trans H1.out.2.1 hg
  have HG2 := Lib.hid hg
  have hsz2 : w1.heap.size ≤ w2.heap.size := hg.size
  have H2 := Lib.hid (And.intro (H1.out.1.later hb) (And.intro hgW (HX.out.2.2.2.later hgW)))
  clear HC hg hgW hb c0 c1
  have HBn := Lib.hid (boxw_grown HBq.out HG2.out (by omega))
  clear HBq
  have HBq := HBn
  clear HBn
  by_cases gs : shapeL rest = sCon
  · rw [decide_eq_true gs]
    obtain ⟨y, r, rfl⟩ := take_of gs (by decide)
    have hp := HP.out
    rw [if_pos gs, show takeO last (y :: r) = .ok y y.2 r from rfl, bind_ok] at hp
    have HQ := Lib.hid hp
    clear hp gs HP
    have HP := HQ
    clear HQ
    simp only [List.length_cons] at hn hL
    have hf1 := fun W => tok_field1 y.1.k (tx y.1.t) y.1.f y.1.x y.2 W
    have HC := Lib.hid (take_any b me ma last y r d w2 H2.out.1)
    go_wp2_with fail
    refine HC.out.mono ?_
    rintro e w3 ⟨rfl, hR, hg⟩
    have hgW := grown_trans H2.out.2.1 hg
    have HG3 := Lib.hid hg
    have hsz3 : w2.heap.size ≤ w3.heap.size := hg.size
    have H3 := Lib.hid (And.intro hR (And.intro hgW (HX.out.2.2.2.later hgW)))
    clear HC hR hgW hg
    have HBn := Lib.hid (boxw_grown HBq.out HG3.out (by omega))
    clear HBq
    have HBq := HBn
    clear HBn
    have q0 : w3.cell? ⟨W.heap.size, 0, none⟩ = some _ := HBq.out.1 0 _ rfl
    have z0 : w3.frozen? ⟨W.heap.size, 0, none⟩ = false := HBq.out.2 0
    have q1 : w3.cell? ⟨W.heap.size, 1, none⟩ = some _ := HBq.out.1 1 _ rfl
    have z1 : w3.frozen? ⟨W.heap.size, 1, none⟩ = false := HBq.out.2 1
    have q2 : w3.cell? ⟨W.heap.size, 2, none⟩ = some _ := HBq.out.1 2 _ rfl
    have z2 : w3.frozen? ⟨W.heap.size, 2, none⟩ = false := HBq.out.2 2
    have q3 : w3.cell? ⟨W.heap.size, 3, none⟩ = some _ := HBq.out.1 3 _ rfl
    have z3 : w3.frozen? ⟨W.heap.size, 3, none⟩ = false := HBq.out.2 3
    have q4 : w3.cell? ⟨W.heap.size, 4, none⟩ = some _ := HBq.out.1 4 _ rfl
    have z4 : w3.frozen? ⟨W.heap.size, 4, none⟩ = false := HBq.out.2 4
    have q5 : w3.cell? ⟨W.heap.size, 5, none⟩ = some _ := HBq.out.1 5 _ rfl
    have z5 : w3.frozen? ⟨W.heap.size, 5, none⟩ = false := HBq.out.2 5
    have q6 : w3.cell? ⟨W.heap.size, 6, none⟩ = some _ := HBq.out.1 6 _ rfl
    have z6 : w3.frozen? ⟨W.heap.size, 6, none⟩ = false := HBq.out.2 6
    have q7 : w3.cell? ⟨W.heap.size, 7, none⟩ = some _ := HBq.out.1 7 _ rfl
    have z7 : w3.frozen? ⟨W.heap.size, 7, none⟩ = false := HBq.out.2 7
    have q8 : w3.cell? ⟨W.heap.size, 8, none⟩ = some _ := HBq.out.1 8 _ rfl
    have z8 : w3.frozen? ⟨W.heap.size, 8, none⟩ = false := HBq.out.2 8
    have q9 : w3.cell? ⟨W.heap.size, 9, none⟩ = some _ := HBq.out.1 9 _ rfl
    have z9 : w3.frozen? ⟨W.heap.size, 9, none⟩ = false := HBq.out.2 9
    have q10 : w3.cell? ⟨W.heap.size, 10, none⟩ = some _ := HBq.out.1 10 _ rfl
    have z10 : w3.frozen? ⟨W.heap.size, 10, none⟩ = false := HBq.out.2 10
    have q11 : w3.cell? ⟨W.heap.size, 11, none⟩ = some _ := HBq.out.1 11 _ rfl
    have z11 : w3.frozen? ⟨W.heap.size, 11, none⟩ = false := HBq.out.2 11
    have q12 : w3.cell? ⟨W.heap.size, 12, none⟩ = some _ := HBq.out.1 12 _ rfl
    have z12 : w3.frozen? ⟨W.heap.size, 12, none⟩ = false := HBq.out.2 12
    go_upto_region 5 with fail
    have HBn := Lib.hid (show BoxW (((((((((((((w3.setCell ⟨W.heap.size, 0, none⟩ (.int .i64 0)).setCell ⟨W.heap.size, 1, none⟩ (.string (tx y.1.t))).setCell ⟨W.heap.size, 2, none⟩ (.bool false)).setCell ⟨W.heap.size, 3, none⟩ (.int .u64 0)).setCell ⟨W.heap.size, 4, none⟩ (.slice none 0 0)).setCell ⟨W.heap.size, 5, none⟩ (.int .i64 0)).setCell ⟨W.heap.size, 6, none⟩ (.string ⟨#[]⟩)).setCell ⟨W.heap.size, 7, none⟩ (.bool false)).setCell ⟨W.heap.size, 8, none⟩ (.int .u64 0)).setCell ⟨W.heap.size, 9, none⟩ (.slice none 0 0)).setCell ⟨W.heap.size, 10, none⟩ (.slice none 0 0)).setCell ⟨W.heap.size, 11, none⟩ (.slice none 0 0)).setCell ⟨W.heap.size, 12, none⟩ (.slice none 0 0)) W.heap.size [.int .i64 0, .string (tx y.1.t), .bool false, .int .u64 0, .slice none 0 0, .int .i64 0, .string ⟨#[]⟩, .bool false, .int .u64 0, .slice none 0 0, .slice none 0 0, .slice none 0 0, .slice none 0 0] from (((((((((((((HBq.out).set 0 (show 0 < 13 by decide) (.int .i64 0)).set 1 (show 1 < 13 by decide) (.string (tx y.1.t))).set 2 (show 2 < 13 by decide) (.bool false)).set 3 (show 3 < 13 by decide) (.int .u64 0)).set 4 (show 4 < 13 by decide) (.slice none 0 0)).set 5 (show 5 < 13 by decide) (.int .i64 0)).set 6 (show 6 < 13 by decide) (.string ⟨#[]⟩)).set 7 (show 7 < 13 by decide) (.bool false)).set 8 (show 8 < 13 by decide) (.int .u64 0)).set 9 (show 9 < 13 by decide) (.slice none 0 0)).set 10 (show 10 < 13 by decide) (.slice none 0 0)).set 11 (show 11 < 13 by decide) (.slice none 0 0)).set 12 (show 12 < 13 by decide) (.slice none 0 0))
    have hgW : W.grownBy (((((((((((((w3.setCell ⟨W.heap.size, 0, none⟩ (.int .i64 0)).setCell ⟨W.heap.size, 1, none⟩ (.string (tx y.1.t))).setCell ⟨W.heap.size, 2, none⟩ (.bool false)).setCell ⟨W.heap.size, 3, none⟩ (.int .u64 0)).setCell ⟨W.heap.size, 4, none⟩ (.slice none 0 0)).setCell ⟨W.heap.size, 5, none⟩ (.int .i64 0)).setCell ⟨W.heap.size, 6, none⟩ (.string ⟨#[]⟩)).setCell ⟨W.heap.size, 7, none⟩ (.bool false)).setCell ⟨W.heap.size, 8, none⟩ (.int .u64 0)).setCell ⟨W.heap.size, 9, none⟩ (.slice none 0 0)).setCell ⟨W.heap.size, 10, none⟩ (.slice none 0 0)).setCell ⟨W.heap.size, 11, none⟩ (.slice none 0 0)).setCell ⟨W.heap.size, 12, none⟩ (.slice none 0 0)) (some b) := (grown_new (grown_new (grown_new (grown_new (grown_new (grown_new (grown_new (grown_new (grown_new (grown_new (grown_new (grown_new (grown_new H3.out.2.1 (show W.heap.size ≤ W.heap.size by omega) _) (show W.heap.size ≤ W.heap.size by omega) _) (show W.heap.size ≤ W.heap.size by omega) _) (show W.heap.size ≤ W.heap.size by omega) _) (show W.heap.size ≤ W.heap.size by omega) _) (show W.heap.size ≤ W.heap.size by omega) _) (show W.heap.size ≤ W.heap.size by omega) _) (show W.heap.size ≤ W.heap.size by omega) _) (show W.heap.size ≤ W.heap.size by omega) _) (show W.heap.size ≤ W.heap.size by omega) _) (show W.heap.size ≤ W.heap.size by omega) _) (show W.heap.size ≤ W.heap.size by omega) _) (show W.heap.size ≤ W.heap.size by omega) _)
    have hR : Rdr (((((((((((((w3.setCell ⟨W.heap.size, 0, none⟩ (.int .i64 0)).setCell ⟨W.heap.size, 1, none⟩ (.string (tx y.1.t))).setCell ⟨W.heap.size, 2, none⟩ (.bool false)).setCell ⟨W.heap.size, 3, none⟩ (.int .u64 0)).setCell ⟨W.heap.size, 4, none⟩ (.slice none 0 0)).setCell ⟨W.heap.size, 5, none⟩ (.int .i64 0)).setCell ⟨W.heap.size, 6, none⟩ (.string ⟨#[]⟩)).setCell ⟨W.heap.size, 7, none⟩ (.bool false)).setCell ⟨W.heap.size, 8, none⟩ (.int .u64 0)).setCell ⟨W.heap.size, 9, none⟩ (.slice none 0 0)).setCell ⟨W.heap.size, 10, none⟩ (.slice none 0 0)).setCell ⟨W.heap.size, 11, none⟩ (.slice none 0 0)).setCell ⟨W.heap.size, 12, none⟩ (.slice none 0 0)) b me ma (y.2) (r) d := (((((((((((((H3.out.1).over (show b < W.heap.size by omega) _).over (show b < W.heap.size by omega) _).over (show b < W.heap.size by omega) _).over (show b < W.heap.size by omega) _).over (show b < W.heap.size by omega) _).over (show b < W.heap.size by omega) _).over (show b < W.heap.size by omega) _).over (show b < W.heap.size by omega) _).over (show b < W.heap.size by omega) _).over (show b < W.heap.size by omega) _).over (show b < W.heap.size by omega) _).over (show b < W.heap.size by omega) _).over (show b < W.heap.size by omega) _
    have HK4 := Lib.hid (show ∀ lo hi, W.heap.size < lo → Kp lo hi w3 (((((((((((((w3.setCell ⟨W.heap.size, 0, none⟩ (.int .i64 0)).setCell ⟨W.heap.size, 1, none⟩ (.string (tx y.1.t))).setCell ⟨W.heap.size, 2, none⟩ (.bool false)).setCell ⟨W.heap.size, 3, none⟩ (.int .u64 0)).setCell ⟨W.heap.size, 4, none⟩ (.slice none 0 0)).setCell ⟨W.heap.size, 5, none⟩ (.int .i64 0)).setCell ⟨W.heap.size, 6, none⟩ (.string ⟨#[]⟩)).setCell ⟨W.heap.size, 7, none⟩ (.bool false)).setCell ⟨W.heap.size, 8, none⟩ (.int .u64 0)).setCell ⟨W.heap.size, 9, none⟩ (.slice none 0 0)).setCell ⟨W.heap.size, 10, none⟩ (.slice none 0 0)).setCell ⟨W.heap.size, 11, none⟩ (.slice none 0 0)).setCell ⟨W.heap.size, 12, none⟩ (.slice none 0 0)) from fun lo hi h => (((((((((((((((((((((((((Kp.set _ _ _ _ (Or.inl h))).trans (Kp.set _ _ _ _ (Or.inl h)))).trans (Kp.set _ _ _ _ (Or.inl h)))).trans (Kp.set _ _ _ _ (Or.inl h)))).trans (Kp.set _ _ _ _ (Or.inl h)))).trans (Kp.set _ _ _ _ (Or.inl h)))).trans (Kp.set _ _ _ _ (Or.inl h)))).trans (Kp.set _ _ _ _ (Or.inl h)))).trans (Kp.set _ _ _ _ (Or.inl h)))).trans (Kp.set _ _ _ _ (Or.inl h)))).trans (Kp.set _ _ _ _ (Or.inl h)))).trans (Kp.set _ _ _ _ (Or.inl h)))).trans (Kp.set _ _ _ _ (Or.inl h))))
    have hsz4 : w3.heap.size ≤ (((((((((((((w3.setCell ⟨W.heap.size, 0, none⟩ (.int .i64 0)).setCell ⟨W.heap.size, 1, none⟩ (.string (tx y.1.t))).setCell ⟨W.heap.size, 2, none⟩ (.bool false)).setCell ⟨W.heap.size, 3, none⟩ (.int .u64 0)).setCell ⟨W.heap.size, 4, none⟩ (.slice none 0 0)).setCell ⟨W.heap.size, 5, none⟩ (.int .i64 0)).setCell ⟨W.heap.size, 6, none⟩ (.string ⟨#[]⟩)).setCell ⟨W.heap.size, 7, none⟩ (.bool false)).setCell ⟨W.heap.size, 8, none⟩ (.int .u64 0)).setCell ⟨W.heap.size, 9, none⟩ (.slice none 0 0)).setCell ⟨W.heap.size, 10, none⟩ (.slice none 0 0)).setCell ⟨W.heap.size, 11, none⟩ (.slice none 0 0)).setCell ⟨W.heap.size, 12, none⟩ (.slice none 0 0)).heap.size := by simp
    clear q0 z0 q1 z1 q2 z2 q3 z3 q4 z4 q5 z5 q6 z6 q7 z7 q8 z8 q9 z9 q10 z10 q11 z11 q12 z12
    have H4 := Lib.hid (And.intro hR (And.intro hgW (HX.out.2.2.2.later hgW)))
    clear hR hgW
    generalize (((((((((((((w3.setCell ⟨W.heap.size, 0, none⟩ (.int .i64 0)).setCell ⟨W.heap.size, 1, none⟩ (.string (tx y.1.t))).setCell ⟨W.heap.size, 2, none⟩ (.bool false)).setCell ⟨W.heap.size, 3, none⟩ (.int .u64 0)).setCell ⟨W.heap.size, 4, none⟩ (.slice none 0 0)).setCell ⟨W.heap.size, 5, none⟩ (.int .i64 0)).setCell ⟨W.heap.size, 6, none⟩ (.string ⟨#[]⟩)).setCell ⟨W.heap.size, 7, none⟩ (.bool false)).setCell ⟨W.heap.size, 8, none⟩ (.int .u64 0)).setCell ⟨W.heap.size, 9, none⟩ (.slice none 0 0)).setCell ⟨W.heap.size, 10, none⟩ (.slice none 0 0)).setCell ⟨W.heap.size, 11, none⟩ (.slice none 0 0)).setCell ⟨W.heap.size, 12, none⟩ (.slice none 0 0)) = w4 at *
    clear HBq
    have HBq := HBn
    clear HBn
    clear hf1
    have HC := Lib.hid (names_any b me ma y.2 r d (by omega) w4 H4.out.2.2.env H4.out.1)
    go_wp2_with fail
    refine HC.out.mono ?_
    rintro e w5 ⟨v, rfl, hR, hg, hown⟩
    obtain ⟨aN, cN, rfl, -⟩ := own_shape hown
    have hlr1 := names_less r y.2 []
    have HTN := Lib.hid hown
    have hgW := grown_trans H4.out.2.1 hg
    have HG5 := Lib.hid hg
    have hsz5 : w4.heap.size ≤ w5.heap.size := hg.size
    have H5 := Lib.hid (And.intro hR (And.intro hgW (HX.out.2.2.2.later hgW)))
    clear HC hg hgW hR hown
    have HBn := Lib.hid (boxw_grown HBq.out HG5.out (by omega))
    clear HBq
    have HBq := HBn
    clear HBn
    have q4 : w5.cell? ⟨W.heap.size, 4, none⟩ = some _ := HBq.out.1 4 _ rfl
    have z4 : w5.frozen? ⟨W.heap.size, 4, none⟩ = false := HBq.out.2 4
    go_upto_region 8 with fail
    have HBn := Lib.hid (show BoxW (w5.setCell ⟨W.heap.size, 4, none⟩ (.slice aN (namesO y.2 r []).1.length cN)) W.heap.size [.int .i64 0, .string (tx y.1.t), .bool false, .int .u64 0, .slice aN (namesO y.2 r []).1.length cN, .int .i64 0, .string ⟨#[]⟩, .bool false, .int .u64 0, .slice none 0 0, .slice none 0 0, .slice none 0 0, .slice none 0 0] from (HBq.out).set 4 (show 4 < 13 by decide) (.slice aN (namesO y.2 r []).1.length cN))
    have hgW : W.grownBy (w5.setCell ⟨W.heap.size, 4, none⟩ (.slice aN (namesO y.2 r []).1.length cN)) (some b) := (grown_new H5.out.2.1 (show W.heap.size ≤ W.heap.size by omega) _)
    have hR : Rdr (w5.setCell ⟨W.heap.size, 4, none⟩ (.slice aN (namesO y.2 r []).1.length cN)) b me ma ((namesO y.2 r []).2.1) ((namesO y.2 r []).2.2) d := (H5.out.1).over (show b < W.heap.size by omega) _
    have HK6 := Lib.hid (show ∀ lo hi, W.heap.size < lo → Kp lo hi w5 (w5.setCell ⟨W.heap.size, 4, none⟩ (.slice aN (namesO y.2 r []).1.length cN)) from fun lo hi h => (Kp.set _ _ _ _ (Or.inl h)))
    have hsz6 : w5.heap.size ≤ (w5.setCell ⟨W.heap.size, 4, none⟩ (.slice aN (namesO y.2 r []).1.length cN)).heap.size := by simp
    clear q4 z4
    have H6 := Lib.hid (And.intro hR (And.intro hgW (HX.out.2.2.2.later hgW)))
    clear hR hgW
    generalize (w5.setCell ⟨W.heap.size, 4, none⟩ (.slice aN (namesO y.2 r []).1.length cN)) = w6 at *
    clear HBq
    have HBq := HBn
    clear HBn
    have c0 := H6.out.2.2.env.arrow.1.1
    have c1 := H6.out.2.2.env.arrow.1.2
    have HC := Lib.hid (want_any b me ma (namesO y.2 r []).2.1 (namesO y.2 r []).2.2 d sArrow (by decide) w6 H6.out.1)
    go_wp2_with fail
    refine HC.out.mono ?_
    rintro e w7 h
    cases ho : wantO sArrow (namesO y.2 r []).2.1 (namesO y.2 r []).2.2 with
    | bad er ln =>
      rw [ho] at h
      obtain ⟨hbr, hg⟩ := h
      have hp := HP.out
      rw [ho, bind_bad] at hp
      have HB := Lib.hid (And.intro hp (grown_trans (grown_trans (grown_of (b := b) HX.out.1) H6.out.2.1) hg))
      unfold Broken at hbr
      subst hbr
      clear hg ho hp HC c0 c1
      go_wp2_with fail
      refine ⟨rfl, ?_⟩
      rw [HB.out.1]
      exact ⟨rfl, HB.out.2⟩
    | ok y2 l2 r2 =>
      rw [ho] at h
      obtain ⟨rfl, hR, hg⟩ := h
      have hlr2 := congrArg List.length (wantO_less (by decide) ho)
      simp only [List.length_cons] at hlr2
      have hp := HP.out
      rw [ho, bind_ok] at hp
      have HQ := Lib.hid hp
      have hgW := grown_trans H6.out.2.1 hg
      have HG7 := Lib.hid hg
      have hsz7 : w6.heap.size ≤ w7.heap.size := hg.size
      have H7 := Lib.hid (And.intro hR (And.intro hgW (HX.out.2.2.2.later hgW)))
      clear hp ho HP HC hg hgW hR c0 c1
      have HP := HQ
      clear HQ
      have HBn := Lib.hid (boxw_grown HBq.out HG7.out (by omega))
      clear HBq
      have HBq := HBn
      clear HBn
      have HC := Lib.hid (hEx l2 r2 w7 (by omega) (by omega) H7.out.2.2 H7.out.1)
      go_wp2_with fail
      refine HC.out.mono ?_
      rintro e w8 h
      cases ho : exprO n d l2 r2 with
      | bad er ln =>
        rw [ho] at h
        obtain ⟨hbr, hg⟩ := h
        have hp := HP.out
        rw [ho, bind_bad] at hp
        have HB := Lib.hid (And.intro hp (grown_trans (grown_trans (grown_of (b := b) HX.out.1) H7.out.2.1) hg))
        unfold Broken at hbr
        subst hbr
        clear hg ho hp HC 
        go_wp2_with fail
        refine ⟨rfl, ?_⟩
        rw [HB.out.1]
        exact ⟨rfl, HB.out.2⟩
      | ok x l3 r3 =>
        rw [ho] at h
        have hlr3 : r3.length ≤ r2.length := by have h := expr_shrinks n d l2 r2; rw [ho] at h; exact h
        obtain ⟨⟨k3, nm3, f3, u3, vp, vk, vb, va, rfl, hat⟩, hR, hg⟩ := h
        obtain ⟨⟨ap3, np3, cp3, rfl⟩, ⟨ak3, nk3, ck3, rfl⟩, ⟨ab3, nb3, cb3, rfl⟩, ⟨aa3, na3, ca3, rfl⟩⟩ := hat.slices
        have HT3 := Lib.hid hat
        clear hat
        have hp := HP.out
        rw [ho, bind_ok] at hp
        have HQ := Lib.hid hp
        have hgW := grown_trans H7.out.2.1 hg
        have HG8 := Lib.hid hg
        have hsz8 : w7.heap.size ≤ w8.heap.size := hg.size
        have H8 := Lib.hid (And.intro hR (And.intro hgW (HX.out.2.2.2.later hgW)))
        clear hp ho HP HC hg hgW hR 
        have HP := HQ
        clear HQ
        have HBn := Lib.hid (boxw_grown HBq.out HG8.out (by omega))
        clear HBq
        have HBq := HBn
        clear HBn
        have q5 : w8.cell? ⟨W.heap.size, 5, none⟩ = some _ := HBq.out.1 5 _ rfl
        have z5 : w8.frozen? ⟨W.heap.size, 5, none⟩ = false := HBq.out.2 5
        have q6 : w8.cell? ⟨W.heap.size, 6, none⟩ = some _ := HBq.out.1 6 _ rfl
        have z6 : w8.frozen? ⟨W.heap.size, 6, none⟩ = false := HBq.out.2 6
        have q7 : w8.cell? ⟨W.heap.size, 7, none⟩ = some _ := HBq.out.1 7 _ rfl
        have z7 : w8.frozen? ⟨W.heap.size, 7, none⟩ = false := HBq.out.2 7
        have q8 : w8.cell? ⟨W.heap.size, 8, none⟩ = some _ := HBq.out.1 8 _ rfl
        have z8 : w8.frozen? ⟨W.heap.size, 8, none⟩ = false := HBq.out.2 8
        have q9 : w8.cell? ⟨W.heap.size, 9, none⟩ = some _ := HBq.out.1 9 _ rfl
        have z9 : w8.frozen? ⟨W.heap.size, 9, none⟩ = false := HBq.out.2 9
        have q10 : w8.cell? ⟨W.heap.size, 10, none⟩ = some _ := HBq.out.1 10 _ rfl
        have z10 : w8.frozen? ⟨W.heap.size, 10, none⟩ = false := HBq.out.2 10
        have q11 : w8.cell? ⟨W.heap.size, 11, none⟩ = some _ := HBq.out.1 11 _ rfl
        have z11 : w8.frozen? ⟨W.heap.size, 11, none⟩ = false := HBq.out.2 11
        have q12 : w8.cell? ⟨W.heap.size, 12, none⟩ = some _ := HBq.out.1 12 _ rfl
        have z12 : w8.frozen? ⟨W.heap.size, 12, none⟩ = false := HBq.out.2 12
        go_upto_region 10 with fail
        have HBn := Lib.hid (show BoxW ((((((((w8.setCell ⟨W.heap.size, 5, none⟩ (.int .i64 k3)).setCell ⟨W.heap.size, 6, none⟩ (.string nm3)).setCell ⟨W.heap.size, 7, none⟩ (.bool f3)).setCell ⟨W.heap.size, 8, none⟩ (.int .u64 u3)).setCell ⟨W.heap.size, 9, none⟩ (.slice ap3 np3 cp3)).setCell ⟨W.heap.size, 10, none⟩ (.slice ak3 nk3 ck3)).setCell ⟨W.heap.size, 11, none⟩ (.slice ab3 nb3 cb3)).setCell ⟨W.heap.size, 12, none⟩ (.slice aa3 na3 ca3)) W.heap.size [.int .i64 0, .string (tx y.1.t), .bool false, .int .u64 0, .slice aN (namesO y.2 r []).1.length cN, .int .i64 k3, .string nm3, .bool f3, .int .u64 u3, .slice ap3 np3 cp3, .slice ak3 nk3 ck3, .slice ab3 nb3 cb3, .slice aa3 na3 ca3] from ((((((((HBq.out).set 5 (show 5 < 13 by decide) (.int .i64 k3)).set 6 (show 6 < 13 by decide) (.string nm3)).set 7 (show 7 < 13 by decide) (.bool f3)).set 8 (show 8 < 13 by decide) (.int .u64 u3)).set 9 (show 9 < 13 by decide) (.slice ap3 np3 cp3)).set 10 (show 10 < 13 by decide) (.slice ak3 nk3 ck3)).set 11 (show 11 < 13 by decide) (.slice ab3 nb3 cb3)).set 12 (show 12 < 13 by decide) (.slice aa3 na3 ca3))
        have hgW : W.grownBy ((((((((w8.setCell ⟨W.heap.size, 5, none⟩ (.int .i64 k3)).setCell ⟨W.heap.size, 6, none⟩ (.string nm3)).setCell ⟨W.heap.size, 7, none⟩ (.bool f3)).setCell ⟨W.heap.size, 8, none⟩ (.int .u64 u3)).setCell ⟨W.heap.size, 9, none⟩ (.slice ap3 np3 cp3)).setCell ⟨W.heap.size, 10, none⟩ (.slice ak3 nk3 ck3)).setCell ⟨W.heap.size, 11, none⟩ (.slice ab3 nb3 cb3)).setCell ⟨W.heap.size, 12, none⟩ (.slice aa3 na3 ca3)) (some b) := (grown_new (grown_new (grown_new (grown_new (grown_new (grown_new (grown_new (grown_new H8.out.2.1 (show W.heap.size ≤ W.heap.size by omega) _) (show W.heap.size ≤ W.heap.size by omega) _) (show W.heap.size ≤ W.heap.size by omega) _) (show W.heap.size ≤ W.heap.size by omega) _) (show W.heap.size ≤ W.heap.size by omega) _) (show W.heap.size ≤ W.heap.size by omega) _) (show W.heap.size ≤ W.heap.size by omega) _) (show W.heap.size ≤ W.heap.size by omega) _)
        have hR : Rdr ((((((((w8.setCell ⟨W.heap.size, 5, none⟩ (.int .i64 k3)).setCell ⟨W.heap.size, 6, none⟩ (.string nm3)).setCell ⟨W.heap.size, 7, none⟩ (.bool f3)).setCell ⟨W.heap.size, 8, none⟩ (.int .u64 u3)).setCell ⟨W.heap.size, 9, none⟩ (.slice ap3 np3 cp3)).setCell ⟨W.heap.size, 10, none⟩ (.slice ak3 nk3 ck3)).setCell ⟨W.heap.size, 11, none⟩ (.slice ab3 nb3 cb3)).setCell ⟨W.heap.size, 12, none⟩ (.slice aa3 na3 ca3)) b me ma (l3) (r3) d := ((((((((H8.out.1).over (show b < W.heap.size by omega) _).over (show b < W.heap.size by omega) _).over (show b < W.heap.size by omega) _).over (show b < W.heap.size by omega) _).over (show b < W.heap.size by omega) _).over (show b < W.heap.size by omega) _).over (show b < W.heap.size by omega) _).over (show b < W.heap.size by omega) _
        have HK9 := Lib.hid (show ∀ lo hi, W.heap.size < lo → Kp lo hi w8 ((((((((w8.setCell ⟨W.heap.size, 5, none⟩ (.int .i64 k3)).setCell ⟨W.heap.size, 6, none⟩ (.string nm3)).setCell ⟨W.heap.size, 7, none⟩ (.bool f3)).setCell ⟨W.heap.size, 8, none⟩ (.int .u64 u3)).setCell ⟨W.heap.size, 9, none⟩ (.slice ap3 np3 cp3)).setCell ⟨W.heap.size, 10, none⟩ (.slice ak3 nk3 ck3)).setCell ⟨W.heap.size, 11, none⟩ (.slice ab3 nb3 cb3)).setCell ⟨W.heap.size, 12, none⟩ (.slice aa3 na3 ca3)) from fun lo hi h => (((((((((((((((Kp.set _ _ _ _ (Or.inl h))).trans (Kp.set _ _ _ _ (Or.inl h)))).trans (Kp.set _ _ _ _ (Or.inl h)))).trans (Kp.set _ _ _ _ (Or.inl h)))).trans (Kp.set _ _ _ _ (Or.inl h)))).trans (Kp.set _ _ _ _ (Or.inl h)))).trans (Kp.set _ _ _ _ (Or.inl h)))).trans (Kp.set _ _ _ _ (Or.inl h))))
        have hsz9 : w8.heap.size ≤ ((((((((w8.setCell ⟨W.heap.size, 5, none⟩ (.int .i64 k3)).setCell ⟨W.heap.size, 6, none⟩ (.string nm3)).setCell ⟨W.heap.size, 7, none⟩ (.bool f3)).setCell ⟨W.heap.size, 8, none⟩ (.int .u64 u3)).setCell ⟨W.heap.size, 9, none⟩ (.slice ap3 np3 cp3)).setCell ⟨W.heap.size, 10, none⟩ (.slice ak3 nk3 ck3)).setCell ⟨W.heap.size, 11, none⟩ (.slice ab3 nb3 cb3)).setCell ⟨W.heap.size, 12, none⟩ (.slice aa3 na3 ca3)).heap.size := by simp
        clear q5 z5 q6 z6 q7 z7 q8 z8 q9 z9 q10 z10 q11 z11 q12 z12
        have H9 := Lib.hid (And.intro hR (And.intro hgW (HX.out.2.2.2.later hgW)))
        clear hR hgW
        generalize ((((((((w8.setCell ⟨W.heap.size, 5, none⟩ (.int .i64 k3)).setCell ⟨W.heap.size, 6, none⟩ (.string nm3)).setCell ⟨W.heap.size, 7, none⟩ (.bool f3)).setCell ⟨W.heap.size, 8, none⟩ (.int .u64 u3)).setCell ⟨W.heap.size, 9, none⟩ (.slice ap3 np3 cp3)).setCell ⟨W.heap.size, 10, none⟩ (.slice ak3 nk3 ck3)).setCell ⟨W.heap.size, 11, none⟩ (.slice ab3 nb3 cb3)).setCell ⟨W.heap.size, 12, none⟩ (.slice aa3 na3 ca3)) = w9 at *
        clear HBq
        have HBq := HBn
        clear HBn
        have hBp : BoxW w9 w.heap.size [.int .i64 0, .string ⟨#[]⟩, .bool false, .int .u64 0, .slice none 0 0, .int .i64 0, .string ⟨#[]⟩, .bool false, .int .u64 0, .slice none 0 0, .slice none 0 0, .slice none 0 0, .slice none 0 0] := boxw_grown HX.out.2.2.1 H9.out.2.1 (by omega)
        have d0 : w9.cell? ⟨w.heap.size, 0, none⟩ = some _ := hBp.1 0 _ rfl
        have d1 : w9.cell? ⟨w.heap.size, 1, none⟩ = some _ := hBp.1 1 _ rfl
        have d2 : w9.cell? ⟨w.heap.size, 2, none⟩ = some _ := hBp.1 2 _ rfl
        have d3 : w9.cell? ⟨w.heap.size, 3, none⟩ = some _ := hBp.1 3 _ rfl
        have d4 : w9.cell? ⟨w.heap.size, 4, none⟩ = some _ := hBp.1 4 _ rfl
        have d5 : w9.cell? ⟨w.heap.size, 5, none⟩ = some _ := hBp.1 5 _ rfl
        have d6 : w9.cell? ⟨w.heap.size, 6, none⟩ = some _ := hBp.1 6 _ rfl
        have d7 : w9.cell? ⟨w.heap.size, 7, none⟩ = some _ := hBp.1 7 _ rfl
        have d8 : w9.cell? ⟨w.heap.size, 8, none⟩ = some _ := hBp.1 8 _ rfl
        have d9 : w9.cell? ⟨w.heap.size, 9, none⟩ = some _ := hBp.1 9 _ rfl
        have d10 : w9.cell? ⟨w.heap.size, 10, none⟩ = some _ := hBp.1 10 _ rfl
        have d11 : w9.cell? ⟨w.heap.size, 11, none⟩ = some _ := hBp.1 11 _ rfl
        have d12 : w9.cell? ⟨w.heap.size, 12, none⟩ = some _ := hBp.1 12 _ rfl
        have z0 : w9.frozen? ⟨w.heap.size, 0, none⟩ = false := hBp.2 0
        have z1 : w9.frozen? ⟨w.heap.size, 1, none⟩ = false := hBp.2 1
        have z2 : w9.frozen? ⟨w.heap.size, 2, none⟩ = false := hBp.2 2
        have z3 : w9.frozen? ⟨w.heap.size, 3, none⟩ = false := hBp.2 3
        have z4 : w9.frozen? ⟨w.heap.size, 4, none⟩ = false := hBp.2 4
        have z5 : w9.frozen? ⟨w.heap.size, 5, none⟩ = false := hBp.2 5
        have z6 : w9.frozen? ⟨w.heap.size, 6, none⟩ = false := hBp.2 6
        have z7 : w9.frozen? ⟨w.heap.size, 7, none⟩ = false := hBp.2 7
        have z8 : w9.frozen? ⟨w.heap.size, 8, none⟩ = false := hBp.2 8
        have z9 : w9.frozen? ⟨w.heap.size, 9, none⟩ = false := hBp.2 9
        have z10 : w9.frozen? ⟨w.heap.size, 10, none⟩ = false := hBp.2 10
        have z11 : w9.frozen? ⟨w.heap.size, 11, none⟩ = false := hBp.2 11
        have z12 : w9.frozen? ⟨w.heap.size, 12, none⟩ = false := hBp.2 12
        have q0 : w9.cell? ⟨W.heap.size, 0, none⟩ = some _ := HBq.out.1 0 _ rfl
        have q1 : w9.cell? ⟨W.heap.size, 1, none⟩ = some _ := HBq.out.1 1 _ rfl
        have q2 : w9.cell? ⟨W.heap.size, 2, none⟩ = some _ := HBq.out.1 2 _ rfl
        have q3 : w9.cell? ⟨W.heap.size, 3, none⟩ = some _ := HBq.out.1 3 _ rfl
        have q4 : w9.cell? ⟨W.heap.size, 4, none⟩ = some _ := HBq.out.1 4 _ rfl
        have q5 : w9.cell? ⟨W.heap.size, 5, none⟩ = some _ := HBq.out.1 5 _ rfl
        have q6 : w9.cell? ⟨W.heap.size, 6, none⟩ = some _ := HBq.out.1 6 _ rfl
        have q7 : w9.cell? ⟨W.heap.size, 7, none⟩ = some _ := HBq.out.1 7 _ rfl
        have q8 : w9.cell? ⟨W.heap.size, 8, none⟩ = some _ := HBq.out.1 8 _ rfl
        have q9 : w9.cell? ⟨W.heap.size, 9, none⟩ = some _ := HBq.out.1 9 _ rfl
        have q10 : w9.cell? ⟨W.heap.size, 10, none⟩ = some _ := HBq.out.1 10 _ rfl
        have q11 : w9.cell? ⟨W.heap.size, 11, none⟩ = some _ := HBq.out.1 11 _ rfl
        have q12 : w9.cell? ⟨W.heap.size, 12, none⟩ = some _ := HBq.out.1 12 _ rfl
        have HBp := Lib.hid hBp
        clear hBp
        go_wp2_with fail
        have hF := (((((((((((((HBp.out).set 0 (show 0 < 13 by decide) (.int .i64 0)).set 1 (show 1 < 13 by decide) (.string (tx y.1.t))).set 2 (show 2 < 13 by decide) (.bool false)).set 3 (show 3 < 13 by decide) (.int .u64 0)).set 4 (show 4 < 13 by decide) (.slice aN (namesO y.2 r []).1.length cN)).set 5 (show 5 < 13 by decide) (.int .i64 k3)).set 6 (show 6 < 13 by decide) (.string nm3)).set 7 (show 7 < 13 by decide) (.bool f3)).set 8 (show 8 < 13 by decide) (.int .u64 u3)).set 9 (show 9 < 13 by decide) (.slice ap3 np3 cp3)).set 10 (show 10 < 13 by decide) (.slice ak3 nk3 ck3)).set 11 (show 11 < 13 by decide) (.slice ab3 nb3 cb3)).set 12 (show 12 < 13 by decide) (.slice aa3 na3 ca3)
        have v0 := hF.1 0 _ rfl
        have v1 := hF.1 1 _ rfl
        have v2 := hF.1 2 _ rfl
        have v3 := hF.1 3 _ rfl
        have v4 := hF.1 4 _ rfl
        have v5 := hF.1 5 _ rfl
        have v6 := hF.1 6 _ rfl
        have v7 := hF.1 7 _ rfl
        have v8 := hF.1 8 _ rfl
        have v9 := hF.1 9 _ rfl
        have v10 := hF.1 10 _ rfl
        have v11 := hF.1 11 _ rfl
        have v12 := hF.1 12 _ rfl
        refine bodyPost_ret (v := .agg #[.int .i64 0, .string (tx y.1.t), .bool false, .int .u64 0, .slice aN (namesO y.2 r []).1.length cN, .int .i64 k3, .string nm3, .bool f3, .int .u64 u3, .slice ap3 np3 cp3, .slice ak3 nk3 ck3, .slice ab3 nb3 cb3, .slice aa3 na3 ca3]) (by simp [results, Tryz.results125, go_sem, v0, v1, v2, v3, v4, v5, v6, v7, v8, v9, v10, v11, v12]) rfl ?_
        rw [HP.out]
        refine ⟨⟨_, _, _, _, _, _, _, _, _, rfl, ?_, ?_⟩, (((((((((((((H9.out.1).over hlt _).over hlt _).over hlt _).over hlt _).over hlt _).over hlt _).over hlt _).over hlt _).over hlt _).over hlt _).over hlt _).over hlt _).over hlt _, (grown_new (grown_new (grown_new (grown_new (grown_new (grown_new (grown_new (grown_new (grown_new (grown_new (grown_new (grown_new (grown_new (grown_trans (grown_of (b := b) HX.out.1) H9.out.2.1) (Nat.le_refl _) _) (Nat.le_refl _) _) (Nat.le_refl _) _) (Nat.le_refl _) _) (Nat.le_refl _) _) (Nat.le_refl _) _) (Nat.le_refl _) _) (Nat.le_refl _) _) (Nat.le_refl _) _) (Nat.le_refl _) _) (Nat.le_refl _) _) (Nat.le_refl _) _) (Nat.le_refl _) _)⟩
        · exact (RowAt.own HTN.out).kp ((((((((HK6.out _ _ (by omega)).trans (Kp.grown HG7.out (by omega) (by omega)))).trans (Kp.grown HG8.out (by omega) (by omega)))).trans (HK9.out _ _ (by omega)))).trans (((((((((((((((((((((((((Kp.set _ _ _ _ (Or.inl (by omega)))).trans (Kp.set _ _ _ _ (Or.inl (by omega))))).trans (Kp.set _ _ _ _ (Or.inl (by omega))))).trans (Kp.set _ _ _ _ (Or.inl (by omega))))).trans (Kp.set _ _ _ _ (Or.inl (by omega))))).trans (Kp.set _ _ _ _ (Or.inl (by omega))))).trans (Kp.set _ _ _ _ (Or.inl (by omega))))).trans (Kp.set _ _ _ _ (Or.inl (by omega))))).trans (Kp.set _ _ _ _ (Or.inl (by omega))))).trans (Kp.set _ _ _ _ (Or.inl (by omega))))).trans (Kp.set _ _ _ _ (Or.inl (by omega))))).trans (Kp.set _ _ _ _ (Or.inl (by omega))))).trans (Kp.set _ _ _ _ (Or.inl (by omega))))) (lo' := w.heap.size) (by omega)
        · exact HT3.out.kp ((HK9.out _ _ (by omega)).trans (((((((((((((((((((((((((Kp.set _ _ _ _ (Or.inl (by omega)))).trans (Kp.set _ _ _ _ (Or.inl (by omega))))).trans (Kp.set _ _ _ _ (Or.inl (by omega))))).trans (Kp.set _ _ _ _ (Or.inl (by omega))))).trans (Kp.set _ _ _ _ (Or.inl (by omega))))).trans (Kp.set _ _ _ _ (Or.inl (by omega))))).trans (Kp.set _ _ _ _ (Or.inl (by omega))))).trans (Kp.set _ _ _ _ (Or.inl (by omega))))).trans (Kp.set _ _ _ _ (Or.inl (by omega))))).trans (Kp.set _ _ _ _ (Or.inl (by omega))))).trans (Kp.set _ _ _ _ (Or.inl (by omega))))).trans (Kp.set _ _ _ _ (Or.inl (by omega))))).trans (Kp.set _ _ _ _ (Or.inl (by omega))))) (by omega)
  · rw [decide_eq_false gs]
    have hp := HP.out
    rw [if_neg gs] at hp
    have HQ := Lib.hid hp
    clear hp gs HP
    have HP := HQ
    clear HQ
    have c0 := H2.out.2.2.env.num.1.1
    have c1 := H2.out.2.2.env.num.1.2
    have HC := Lib.hid (isAhead_any b me ma last rest d sNum w2 H2.out.1)
    go_wp2_with fail
    refine HC.out.mono ?_
    rintro e w3 ⟨rfl, hb⟩
    have hg := grown_of (b := b) hb
    have hgW := grown_trans H2.out.2.1 hg
    have HG3 := Lib.hid hg
    have hsz3 : w2.heap.size ≤ w3.heap.size := hg.size
    have H3 := Lib.hid (And.intro (H2.out.1.later hb) (And.intro hgW (HX.out.2.2.2.later hgW)))
    clear HC hg hgW hb c0 c1
    have HBn := Lib.hid (boxw_grown HBq.out HG3.out (by omega))
    clear HBq
    have HBq := HBn
    clear HBn
    by_cases gs : shapeL rest = sNum
    · rw [decide_eq_true gs]
      obtain ⟨y, r, rfl⟩ := take_of gs (by decide)
      have hp := HP.out
      rw [if_pos gs, show takeO last (y :: r) = .ok y y.2 r from rfl, bind_ok] at hp
      have HQ := Lib.hid hp
      clear hp gs HP
      have HP := HQ
      clear HQ
      simp only [List.length_cons] at hn hL
      have hf2 := fun W => tok_field2 y.1.k (tx y.1.t) y.1.f y.1.x y.2 W
      have HC := Lib.hid (take_any b me ma last y r d w3 H3.out.1)
      go_wp2_with fail
      refine HC.out.mono ?_
      rintro e w4 ⟨rfl, hR, hg⟩
      have hgW := grown_trans H3.out.2.1 hg
      have HG4 := Lib.hid hg
      have hsz4 : w3.heap.size ≤ w4.heap.size := hg.size
      have H4 := Lib.hid (And.intro hR (And.intro hgW (HX.out.2.2.2.later hgW)))
      clear HC hR hgW hg
      have HBn := Lib.hid (boxw_grown HBq.out HG4.out (by omega))
      clear HBq
      have HBq := HBn
      clear HBn
      have q0 : w4.cell? ⟨W.heap.size, 0, none⟩ = some _ := HBq.out.1 0 _ rfl
      have z0 : w4.frozen? ⟨W.heap.size, 0, none⟩ = false := HBq.out.2 0
      have q1 : w4.cell? ⟨W.heap.size, 1, none⟩ = some _ := HBq.out.1 1 _ rfl
      have z1 : w4.frozen? ⟨W.heap.size, 1, none⟩ = false := HBq.out.2 1
      have q2 : w4.cell? ⟨W.heap.size, 2, none⟩ = some _ := HBq.out.1 2 _ rfl
      have z2 : w4.frozen? ⟨W.heap.size, 2, none⟩ = false := HBq.out.2 2
      have q3 : w4.cell? ⟨W.heap.size, 3, none⟩ = some _ := HBq.out.1 3 _ rfl
      have z3 : w4.frozen? ⟨W.heap.size, 3, none⟩ = false := HBq.out.2 3
      have q4 : w4.cell? ⟨W.heap.size, 4, none⟩ = some _ := HBq.out.1 4 _ rfl
      have z4 : w4.frozen? ⟨W.heap.size, 4, none⟩ = false := HBq.out.2 4
      have q5 : w4.cell? ⟨W.heap.size, 5, none⟩ = some _ := HBq.out.1 5 _ rfl
      have z5 : w4.frozen? ⟨W.heap.size, 5, none⟩ = false := HBq.out.2 5
      have q6 : w4.cell? ⟨W.heap.size, 6, none⟩ = some _ := HBq.out.1 6 _ rfl
      have z6 : w4.frozen? ⟨W.heap.size, 6, none⟩ = false := HBq.out.2 6
      have q7 : w4.cell? ⟨W.heap.size, 7, none⟩ = some _ := HBq.out.1 7 _ rfl
      have z7 : w4.frozen? ⟨W.heap.size, 7, none⟩ = false := HBq.out.2 7
      have q8 : w4.cell? ⟨W.heap.size, 8, none⟩ = some _ := HBq.out.1 8 _ rfl
      have z8 : w4.frozen? ⟨W.heap.size, 8, none⟩ = false := HBq.out.2 8
      have q9 : w4.cell? ⟨W.heap.size, 9, none⟩ = some _ := HBq.out.1 9 _ rfl
      have z9 : w4.frozen? ⟨W.heap.size, 9, none⟩ = false := HBq.out.2 9
      have q10 : w4.cell? ⟨W.heap.size, 10, none⟩ = some _ := HBq.out.1 10 _ rfl
      have z10 : w4.frozen? ⟨W.heap.size, 10, none⟩ = false := HBq.out.2 10
      have q11 : w4.cell? ⟨W.heap.size, 11, none⟩ = some _ := HBq.out.1 11 _ rfl
      have z11 : w4.frozen? ⟨W.heap.size, 11, none⟩ = false := HBq.out.2 11
      have q12 : w4.cell? ⟨W.heap.size, 12, none⟩ = some _ := HBq.out.1 12 _ rfl
      have z12 : w4.frozen? ⟨W.heap.size, 12, none⟩ = false := HBq.out.2 12
      go_upto_region 8 with fail
      have HBn := Lib.hid (show BoxW (((((((((((((w4.setCell ⟨W.heap.size, 0, none⟩ (.int .i64 1)).setCell ⟨W.heap.size, 1, none⟩ (.string ⟨#[]⟩)).setCell ⟨W.heap.size, 2, none⟩ (.bool y.1.f)).setCell ⟨W.heap.size, 3, none⟩ (.int .u64 y.1.x)).setCell ⟨W.heap.size, 4, none⟩ (.slice none 0 0)).setCell ⟨W.heap.size, 5, none⟩ (.int .i64 0)).setCell ⟨W.heap.size, 6, none⟩ (.string ⟨#[]⟩)).setCell ⟨W.heap.size, 7, none⟩ (.bool false)).setCell ⟨W.heap.size, 8, none⟩ (.int .u64 0)).setCell ⟨W.heap.size, 9, none⟩ (.slice none 0 0)).setCell ⟨W.heap.size, 10, none⟩ (.slice none 0 0)).setCell ⟨W.heap.size, 11, none⟩ (.slice none 0 0)).setCell ⟨W.heap.size, 12, none⟩ (.slice none 0 0)) W.heap.size [.int .i64 1, .string ⟨#[]⟩, .bool y.1.f, .int .u64 y.1.x, .slice none 0 0, .int .i64 0, .string ⟨#[]⟩, .bool false, .int .u64 0, .slice none 0 0, .slice none 0 0, .slice none 0 0, .slice none 0 0] from (((((((((((((HBq.out).set 0 (show 0 < 13 by decide) (.int .i64 1)).set 1 (show 1 < 13 by decide) (.string ⟨#[]⟩)).set 2 (show 2 < 13 by decide) (.bool y.1.f)).set 3 (show 3 < 13 by decide) (.int .u64 y.1.x)).set 4 (show 4 < 13 by decide) (.slice none 0 0)).set 5 (show 5 < 13 by decide) (.int .i64 0)).set 6 (show 6 < 13 by decide) (.string ⟨#[]⟩)).set 7 (show 7 < 13 by decide) (.bool false)).set 8 (show 8 < 13 by decide) (.int .u64 0)).set 9 (show 9 < 13 by decide) (.slice none 0 0)).set 10 (show 10 < 13 by decide) (.slice none 0 0)).set 11 (show 11 < 13 by decide) (.slice none 0 0)).set 12 (show 12 < 13 by decide) (.slice none 0 0))
      have hgW : W.grownBy (((((((((((((w4.setCell ⟨W.heap.size, 0, none⟩ (.int .i64 1)).setCell ⟨W.heap.size, 1, none⟩ (.string ⟨#[]⟩)).setCell ⟨W.heap.size, 2, none⟩ (.bool y.1.f)).setCell ⟨W.heap.size, 3, none⟩ (.int .u64 y.1.x)).setCell ⟨W.heap.size, 4, none⟩ (.slice none 0 0)).setCell ⟨W.heap.size, 5, none⟩ (.int .i64 0)).setCell ⟨W.heap.size, 6, none⟩ (.string ⟨#[]⟩)).setCell ⟨W.heap.size, 7, none⟩ (.bool false)).setCell ⟨W.heap.size, 8, none⟩ (.int .u64 0)).setCell ⟨W.heap.size, 9, none⟩ (.slice none 0 0)).setCell ⟨W.heap.size, 10, none⟩ (.slice none 0 0)).setCell ⟨W.heap.size, 11, none⟩ (.slice none 0 0)).setCell ⟨W.heap.size, 12, none⟩ (.slice none 0 0)) (some b) := (grown_new (grown_new (grown_new (grown_new (grown_new (grown_new (grown_new (grown_new (grown_new (grown_new (grown_new (grown_new (grown_new H4.out.2.1 (show W.heap.size ≤ W.heap.size by omega) _) (show W.heap.size ≤ W.heap.size by omega) _) (show W.heap.size ≤ W.heap.size by omega) _) (show W.heap.size ≤ W.heap.size by omega) _) (show W.heap.size ≤ W.heap.size by omega) _) (show W.heap.size ≤ W.heap.size by omega) _) (show W.heap.size ≤ W.heap.size by omega) _) (show W.heap.size ≤ W.heap.size by omega) _) (show W.heap.size ≤ W.heap.size by omega) _) (show W.heap.size ≤ W.heap.size by omega) _) (show W.heap.size ≤ W.heap.size by omega) _) (show W.heap.size ≤ W.heap.size by omega) _) (show W.heap.size ≤ W.heap.size by omega) _)
      have hR : Rdr (((((((((((((w4.setCell ⟨W.heap.size, 0, none⟩ (.int .i64 1)).setCell ⟨W.heap.size, 1, none⟩ (.string ⟨#[]⟩)).setCell ⟨W.heap.size, 2, none⟩ (.bool y.1.f)).setCell ⟨W.heap.size, 3, none⟩ (.int .u64 y.1.x)).setCell ⟨W.heap.size, 4, none⟩ (.slice none 0 0)).setCell ⟨W.heap.size, 5, none⟩ (.int .i64 0)).setCell ⟨W.heap.size, 6, none⟩ (.string ⟨#[]⟩)).setCell ⟨W.heap.size, 7, none⟩ (.bool false)).setCell ⟨W.heap.size, 8, none⟩ (.int .u64 0)).setCell ⟨W.heap.size, 9, none⟩ (.slice none 0 0)).setCell ⟨W.heap.size, 10, none⟩ (.slice none 0 0)).setCell ⟨W.heap.size, 11, none⟩ (.slice none 0 0)).setCell ⟨W.heap.size, 12, none⟩ (.slice none 0 0)) b me ma (y.2) (r) d := (((((((((((((H4.out.1).over (show b < W.heap.size by omega) _).over (show b < W.heap.size by omega) _).over (show b < W.heap.size by omega) _).over (show b < W.heap.size by omega) _).over (show b < W.heap.size by omega) _).over (show b < W.heap.size by omega) _).over (show b < W.heap.size by omega) _).over (show b < W.heap.size by omega) _).over (show b < W.heap.size by omega) _).over (show b < W.heap.size by omega) _).over (show b < W.heap.size by omega) _).over (show b < W.heap.size by omega) _).over (show b < W.heap.size by omega) _
      have HK5 := Lib.hid (show ∀ lo hi, W.heap.size < lo → Kp lo hi w4 (((((((((((((w4.setCell ⟨W.heap.size, 0, none⟩ (.int .i64 1)).setCell ⟨W.heap.size, 1, none⟩ (.string ⟨#[]⟩)).setCell ⟨W.heap.size, 2, none⟩ (.bool y.1.f)).setCell ⟨W.heap.size, 3, none⟩ (.int .u64 y.1.x)).setCell ⟨W.heap.size, 4, none⟩ (.slice none 0 0)).setCell ⟨W.heap.size, 5, none⟩ (.int .i64 0)).setCell ⟨W.heap.size, 6, none⟩ (.string ⟨#[]⟩)).setCell ⟨W.heap.size, 7, none⟩ (.bool false)).setCell ⟨W.heap.size, 8, none⟩ (.int .u64 0)).setCell ⟨W.heap.size, 9, none⟩ (.slice none 0 0)).setCell ⟨W.heap.size, 10, none⟩ (.slice none 0 0)).setCell ⟨W.heap.size, 11, none⟩ (.slice none 0 0)).setCell ⟨W.heap.size, 12, none⟩ (.slice none 0 0)) from fun lo hi h => (((((((((((((((((((((((((Kp.set _ _ _ _ (Or.inl h))).trans (Kp.set _ _ _ _ (Or.inl h)))).trans (Kp.set _ _ _ _ (Or.inl h)))).trans (Kp.set _ _ _ _ (Or.inl h)))).trans (Kp.set _ _ _ _ (Or.inl h)))).trans (Kp.set _ _ _ _ (Or.inl h)))).trans (Kp.set _ _ _ _ (Or.inl h)))).trans (Kp.set _ _ _ _ (Or.inl h)))).trans (Kp.set _ _ _ _ (Or.inl h)))).trans (Kp.set _ _ _ _ (Or.inl h)))).trans (Kp.set _ _ _ _ (Or.inl h)))).trans (Kp.set _ _ _ _ (Or.inl h)))).trans (Kp.set _ _ _ _ (Or.inl h))))
      have hsz5 : w4.heap.size ≤ (((((((((((((w4.setCell ⟨W.heap.size, 0, none⟩ (.int .i64 1)).setCell ⟨W.heap.size, 1, none⟩ (.string ⟨#[]⟩)).setCell ⟨W.heap.size, 2, none⟩ (.bool y.1.f)).setCell ⟨W.heap.size, 3, none⟩ (.int .u64 y.1.x)).setCell ⟨W.heap.size, 4, none⟩ (.slice none 0 0)).setCell ⟨W.heap.size, 5, none⟩ (.int .i64 0)).setCell ⟨W.heap.size, 6, none⟩ (.string ⟨#[]⟩)).setCell ⟨W.heap.size, 7, none⟩ (.bool false)).setCell ⟨W.heap.size, 8, none⟩ (.int .u64 0)).setCell ⟨W.heap.size, 9, none⟩ (.slice none 0 0)).setCell ⟨W.heap.size, 10, none⟩ (.slice none 0 0)).setCell ⟨W.heap.size, 11, none⟩ (.slice none 0 0)).setCell ⟨W.heap.size, 12, none⟩ (.slice none 0 0)).heap.size := by simp
      clear q0 z0 q1 z1 q2 z2 q3 z3 q4 z4 q5 z5 q6 z6 q7 z7 q8 z8 q9 z9 q10 z10 q11 z11 q12 z12
      have H5 := Lib.hid (And.intro hR (And.intro hgW (HX.out.2.2.2.later hgW)))
      clear hR hgW
      generalize (((((((((((((w4.setCell ⟨W.heap.size, 0, none⟩ (.int .i64 1)).setCell ⟨W.heap.size, 1, none⟩ (.string ⟨#[]⟩)).setCell ⟨W.heap.size, 2, none⟩ (.bool y.1.f)).setCell ⟨W.heap.size, 3, none⟩ (.int .u64 y.1.x)).setCell ⟨W.heap.size, 4, none⟩ (.slice none 0 0)).setCell ⟨W.heap.size, 5, none⟩ (.int .i64 0)).setCell ⟨W.heap.size, 6, none⟩ (.string ⟨#[]⟩)).setCell ⟨W.heap.size, 7, none⟩ (.bool false)).setCell ⟨W.heap.size, 8, none⟩ (.int .u64 0)).setCell ⟨W.heap.size, 9, none⟩ (.slice none 0 0)).setCell ⟨W.heap.size, 10, none⟩ (.slice none 0 0)).setCell ⟨W.heap.size, 11, none⟩ (.slice none 0 0)).setCell ⟨W.heap.size, 12, none⟩ (.slice none 0 0)) = w5 at *
      clear HBq
      have HBq := HBn
      clear HBn
      clear hf2
      have c0 := H5.out.2.2.env.arrow.1.1
      have c1 := H5.out.2.2.env.arrow.1.2
      have HC := Lib.hid (want_any b me ma y.2 r d sArrow (by decide) w5 H5.out.1)
      go_wp2_with fail
      refine HC.out.mono ?_
      rintro e w6 h
      cases ho : wantO sArrow y.2 r with
      | bad er ln =>
        rw [ho] at h
        obtain ⟨hbr, hg⟩ := h
        have hp := HP.out
        rw [ho, bind_bad] at hp
        have HB := Lib.hid (And.intro hp (grown_trans (grown_trans (grown_of (b := b) HX.out.1) H5.out.2.1) hg))
        unfold Broken at hbr
        subst hbr
        clear hg ho hp HC c0 c1
        go_wp2_with fail
        refine ⟨rfl, ?_⟩
        rw [HB.out.1]
        exact ⟨rfl, HB.out.2⟩
      | ok y2 l2 r2 =>
        rw [ho] at h
        obtain ⟨rfl, hR, hg⟩ := h
        have hlr2 := congrArg List.length (wantO_less (by decide) ho)
        simp only [List.length_cons] at hlr2
        have hp := HP.out
        rw [ho, bind_ok] at hp
        have HQ := Lib.hid hp
        have hgW := grown_trans H5.out.2.1 hg
        have HG6 := Lib.hid hg
        have hsz6 : w5.heap.size ≤ w6.heap.size := hg.size
        have H6 := Lib.hid (And.intro hR (And.intro hgW (HX.out.2.2.2.later hgW)))
        clear hp ho HP HC hg hgW hR c0 c1
        have HP := HQ
        clear HQ
        have HBn := Lib.hid (boxw_grown HBq.out HG6.out (by omega))
        clear HBq
        have HBq := HBn
        clear HBn
        have HC := Lib.hid (hEx l2 r2 w6 (by omega) (by omega) H6.out.2.2 H6.out.1)
        go_wp2_with fail
        refine HC.out.mono ?_
        rintro e w7 h
        cases ho : exprO n d l2 r2 with
        | bad er ln =>
          rw [ho] at h
          obtain ⟨hbr, hg⟩ := h
          have hp := HP.out
          rw [ho, bind_bad] at hp
          have HB := Lib.hid (And.intro hp (grown_trans (grown_trans (grown_of (b := b) HX.out.1) H6.out.2.1) hg))
          unfold Broken at hbr
          subst hbr
          clear hg ho hp HC 
          go_wp2_with fail
          refine ⟨rfl, ?_⟩
          rw [HB.out.1]
          exact ⟨rfl, HB.out.2⟩
        | ok x l3 r3 =>
          rw [ho] at h
          have hlr3 : r3.length ≤ r2.length := by have h := expr_shrinks n d l2 r2; rw [ho] at h; exact h
          obtain ⟨⟨k3, nm3, f3, u3, vp, vk, vb, va, rfl, hat⟩, hR, hg⟩ := h
          obtain ⟨⟨ap3, np3, cp3, rfl⟩, ⟨ak3, nk3, ck3, rfl⟩, ⟨ab3, nb3, cb3, rfl⟩, ⟨aa3, na3, ca3, rfl⟩⟩ := hat.slices
          have HT3 := Lib.hid hat
          clear hat
          have hp := HP.out
          rw [ho, bind_ok] at hp
          have HQ := Lib.hid hp
          have hgW := grown_trans H6.out.2.1 hg
          have HG7 := Lib.hid hg
          have hsz7 : w6.heap.size ≤ w7.heap.size := hg.size
          have H7 := Lib.hid (And.intro hR (And.intro hgW (HX.out.2.2.2.later hgW)))
          clear hp ho HP HC hg hgW hR 
          have HP := HQ
          clear HQ
          have HBn := Lib.hid (boxw_grown HBq.out HG7.out (by omega))
          clear HBq
          have HBq := HBn
          clear HBn
          have q5 : w7.cell? ⟨W.heap.size, 5, none⟩ = some _ := HBq.out.1 5 _ rfl
          have z5 : w7.frozen? ⟨W.heap.size, 5, none⟩ = false := HBq.out.2 5
          have q6 : w7.cell? ⟨W.heap.size, 6, none⟩ = some _ := HBq.out.1 6 _ rfl
          have z6 : w7.frozen? ⟨W.heap.size, 6, none⟩ = false := HBq.out.2 6
          have q7 : w7.cell? ⟨W.heap.size, 7, none⟩ = some _ := HBq.out.1 7 _ rfl
          have z7 : w7.frozen? ⟨W.heap.size, 7, none⟩ = false := HBq.out.2 7
          have q8 : w7.cell? ⟨W.heap.size, 8, none⟩ = some _ := HBq.out.1 8 _ rfl
          have z8 : w7.frozen? ⟨W.heap.size, 8, none⟩ = false := HBq.out.2 8
          have q9 : w7.cell? ⟨W.heap.size, 9, none⟩ = some _ := HBq.out.1 9 _ rfl
          have z9 : w7.frozen? ⟨W.heap.size, 9, none⟩ = false := HBq.out.2 9
          have q10 : w7.cell? ⟨W.heap.size, 10, none⟩ = some _ := HBq.out.1 10 _ rfl
          have z10 : w7.frozen? ⟨W.heap.size, 10, none⟩ = false := HBq.out.2 10
          have q11 : w7.cell? ⟨W.heap.size, 11, none⟩ = some _ := HBq.out.1 11 _ rfl
          have z11 : w7.frozen? ⟨W.heap.size, 11, none⟩ = false := HBq.out.2 11
          have q12 : w7.cell? ⟨W.heap.size, 12, none⟩ = some _ := HBq.out.1 12 _ rfl
          have z12 : w7.frozen? ⟨W.heap.size, 12, none⟩ = false := HBq.out.2 12
          go_upto_region 10 with fail
          have HBn := Lib.hid (show BoxW ((((((((w7.setCell ⟨W.heap.size, 5, none⟩ (.int .i64 k3)).setCell ⟨W.heap.size, 6, none⟩ (.string nm3)).setCell ⟨W.heap.size, 7, none⟩ (.bool f3)).setCell ⟨W.heap.size, 8, none⟩ (.int .u64 u3)).setCell ⟨W.heap.size, 9, none⟩ (.slice ap3 np3 cp3)).setCell ⟨W.heap.size, 10, none⟩ (.slice ak3 nk3 ck3)).setCell ⟨W.heap.size, 11, none⟩ (.slice ab3 nb3 cb3)).setCell ⟨W.heap.size, 12, none⟩ (.slice aa3 na3 ca3)) W.heap.size [.int .i64 1, .string ⟨#[]⟩, .bool y.1.f, .int .u64 y.1.x, .slice none 0 0, .int .i64 k3, .string nm3, .bool f3, .int .u64 u3, .slice ap3 np3 cp3, .slice ak3 nk3 ck3, .slice ab3 nb3 cb3, .slice aa3 na3 ca3] from ((((((((HBq.out).set 5 (show 5 < 13 by decide) (.int .i64 k3)).set 6 (show 6 < 13 by decide) (.string nm3)).set 7 (show 7 < 13 by decide) (.bool f3)).set 8 (show 8 < 13 by decide) (.int .u64 u3)).set 9 (show 9 < 13 by decide) (.slice ap3 np3 cp3)).set 10 (show 10 < 13 by decide) (.slice ak3 nk3 ck3)).set 11 (show 11 < 13 by decide) (.slice ab3 nb3 cb3)).set 12 (show 12 < 13 by decide) (.slice aa3 na3 ca3))
          have hgW : W.grownBy ((((((((w7.setCell ⟨W.heap.size, 5, none⟩ (.int .i64 k3)).setCell ⟨W.heap.size, 6, none⟩ (.string nm3)).setCell ⟨W.heap.size, 7, none⟩ (.bool f3)).setCell ⟨W.heap.size, 8, none⟩ (.int .u64 u3)).setCell ⟨W.heap.size, 9, none⟩ (.slice ap3 np3 cp3)).setCell ⟨W.heap.size, 10, none⟩ (.slice ak3 nk3 ck3)).setCell ⟨W.heap.size, 11, none⟩ (.slice ab3 nb3 cb3)).setCell ⟨W.heap.size, 12, none⟩ (.slice aa3 na3 ca3)) (some b) := (grown_new (grown_new (grown_new (grown_new (grown_new (grown_new (grown_new (grown_new H7.out.2.1 (show W.heap.size ≤ W.heap.size by omega) _) (show W.heap.size ≤ W.heap.size by omega) _) (show W.heap.size ≤ W.heap.size by omega) _) (show W.heap.size ≤ W.heap.size by omega) _) (show W.heap.size ≤ W.heap.size by omega) _) (show W.heap.size ≤ W.heap.size by omega) _) (show W.heap.size ≤ W.heap.size by omega) _) (show W.heap.size ≤ W.heap.size by omega) _)
          have hR : Rdr ((((((((w7.setCell ⟨W.heap.size, 5, none⟩ (.int .i64 k3)).setCell ⟨W.heap.size, 6, none⟩ (.string nm3)).setCell ⟨W.heap.size, 7, none⟩ (.bool f3)).setCell ⟨W.heap.size, 8, none⟩ (.int .u64 u3)).setCell ⟨W.heap.size, 9, none⟩ (.slice ap3 np3 cp3)).setCell ⟨W.heap.size, 10, none⟩ (.slice ak3 nk3 ck3)).setCell ⟨W.heap.size, 11, none⟩ (.slice ab3 nb3 cb3)).setCell ⟨W.heap.size, 12, none⟩ (.slice aa3 na3 ca3)) b me ma (l3) (r3) d := ((((((((H7.out.1).over (show b < W.heap.size by omega) _).over (show b < W.heap.size by omega) _).over (show b < W.heap.size by omega) _).over (show b < W.heap.size by omega) _).over (show b < W.heap.size by omega) _).over (show b < W.heap.size by omega) _).over (show b < W.heap.size by omega) _).over (show b < W.heap.size by omega) _
          have HK8 := Lib.hid (show ∀ lo hi, W.heap.size < lo → Kp lo hi w7 ((((((((w7.setCell ⟨W.heap.size, 5, none⟩ (.int .i64 k3)).setCell ⟨W.heap.size, 6, none⟩ (.string nm3)).setCell ⟨W.heap.size, 7, none⟩ (.bool f3)).setCell ⟨W.heap.size, 8, none⟩ (.int .u64 u3)).setCell ⟨W.heap.size, 9, none⟩ (.slice ap3 np3 cp3)).setCell ⟨W.heap.size, 10, none⟩ (.slice ak3 nk3 ck3)).setCell ⟨W.heap.size, 11, none⟩ (.slice ab3 nb3 cb3)).setCell ⟨W.heap.size, 12, none⟩ (.slice aa3 na3 ca3)) from fun lo hi h => (((((((((((((((Kp.set _ _ _ _ (Or.inl h))).trans (Kp.set _ _ _ _ (Or.inl h)))).trans (Kp.set _ _ _ _ (Or.inl h)))).trans (Kp.set _ _ _ _ (Or.inl h)))).trans (Kp.set _ _ _ _ (Or.inl h)))).trans (Kp.set _ _ _ _ (Or.inl h)))).trans (Kp.set _ _ _ _ (Or.inl h)))).trans (Kp.set _ _ _ _ (Or.inl h))))
          have hsz8 : w7.heap.size ≤ ((((((((w7.setCell ⟨W.heap.size, 5, none⟩ (.int .i64 k3)).setCell ⟨W.heap.size, 6, none⟩ (.string nm3)).setCell ⟨W.heap.size, 7, none⟩ (.bool f3)).setCell ⟨W.heap.size, 8, none⟩ (.int .u64 u3)).setCell ⟨W.heap.size, 9, none⟩ (.slice ap3 np3 cp3)).setCell ⟨W.heap.size, 10, none⟩ (.slice ak3 nk3 ck3)).setCell ⟨W.heap.size, 11, none⟩ (.slice ab3 nb3 cb3)).setCell ⟨W.heap.size, 12, none⟩ (.slice aa3 na3 ca3)).heap.size := by simp
          clear q5 z5 q6 z6 q7 z7 q8 z8 q9 z9 q10 z10 q11 z11 q12 z12
          have H8 := Lib.hid (And.intro hR (And.intro hgW (HX.out.2.2.2.later hgW)))
          clear hR hgW
          generalize ((((((((w7.setCell ⟨W.heap.size, 5, none⟩ (.int .i64 k3)).setCell ⟨W.heap.size, 6, none⟩ (.string nm3)).setCell ⟨W.heap.size, 7, none⟩ (.bool f3)).setCell ⟨W.heap.size, 8, none⟩ (.int .u64 u3)).setCell ⟨W.heap.size, 9, none⟩ (.slice ap3 np3 cp3)).setCell ⟨W.heap.size, 10, none⟩ (.slice ak3 nk3 ck3)).setCell ⟨W.heap.size, 11, none⟩ (.slice ab3 nb3 cb3)).setCell ⟨W.heap.size, 12, none⟩ (.slice aa3 na3 ca3)) = w8 at *
          clear HBq
          have HBq := HBn
          clear HBn
          have hBp : BoxW w8 w.heap.size [.int .i64 0, .string ⟨#[]⟩, .bool false, .int .u64 0, .slice none 0 0, .int .i64 0, .string ⟨#[]⟩, .bool false, .int .u64 0, .slice none 0 0, .slice none 0 0, .slice none 0 0, .slice none 0 0] := boxw_grown HX.out.2.2.1 H8.out.2.1 (by omega)
          have d0 : w8.cell? ⟨w.heap.size, 0, none⟩ = some _ := hBp.1 0 _ rfl
          have d1 : w8.cell? ⟨w.heap.size, 1, none⟩ = some _ := hBp.1 1 _ rfl
          have d2 : w8.cell? ⟨w.heap.size, 2, none⟩ = some _ := hBp.1 2 _ rfl
          have d3 : w8.cell? ⟨w.heap.size, 3, none⟩ = some _ := hBp.1 3 _ rfl
          have d4 : w8.cell? ⟨w.heap.size, 4, none⟩ = some _ := hBp.1 4 _ rfl
          have d5 : w8.cell? ⟨w.heap.size, 5, none⟩ = some _ := hBp.1 5 _ rfl
          have d6 : w8.cell? ⟨w.heap.size, 6, none⟩ = some _ := hBp.1 6 _ rfl
          have d7 : w8.cell? ⟨w.heap.size, 7, none⟩ = some _ := hBp.1 7 _ rfl
          have d8 : w8.cell? ⟨w.heap.size, 8, none⟩ = some _ := hBp.1 8 _ rfl
          have d9 : w8.cell? ⟨w.heap.size, 9, none⟩ = some _ := hBp.1 9 _ rfl
          have d10 : w8.cell? ⟨w.heap.size, 10, none⟩ = some _ := hBp.1 10 _ rfl
          have d11 : w8.cell? ⟨w.heap.size, 11, none⟩ = some _ := hBp.1 11 _ rfl
          have d12 : w8.cell? ⟨w.heap.size, 12, none⟩ = some _ := hBp.1 12 _ rfl
          have z0 : w8.frozen? ⟨w.heap.size, 0, none⟩ = false := hBp.2 0
          have z1 : w8.frozen? ⟨w.heap.size, 1, none⟩ = false := hBp.2 1
          have z2 : w8.frozen? ⟨w.heap.size, 2, none⟩ = false := hBp.2 2
          have z3 : w8.frozen? ⟨w.heap.size, 3, none⟩ = false := hBp.2 3
          have z4 : w8.frozen? ⟨w.heap.size, 4, none⟩ = false := hBp.2 4
          have z5 : w8.frozen? ⟨w.heap.size, 5, none⟩ = false := hBp.2 5
          have z6 : w8.frozen? ⟨w.heap.size, 6, none⟩ = false := hBp.2 6
          have z7 : w8.frozen? ⟨w.heap.size, 7, none⟩ = false := hBp.2 7
          have z8 : w8.frozen? ⟨w.heap.size, 8, none⟩ = false := hBp.2 8
          have z9 : w8.frozen? ⟨w.heap.size, 9, none⟩ = false := hBp.2 9
          have z10 : w8.frozen? ⟨w.heap.size, 10, none⟩ = false := hBp.2 10
          have z11 : w8.frozen? ⟨w.heap.size, 11, none⟩ = false := hBp.2 11
          have z12 : w8.frozen? ⟨w.heap.size, 12, none⟩ = false := hBp.2 12
          have q0 : w8.cell? ⟨W.heap.size, 0, none⟩ = some _ := HBq.out.1 0 _ rfl
          have q1 : w8.cell? ⟨W.heap.size, 1, none⟩ = some _ := HBq.out.1 1 _ rfl
          have q2 : w8.cell? ⟨W.heap.size, 2, none⟩ = some _ := HBq.out.1 2 _ rfl
          have q3 : w8.cell? ⟨W.heap.size, 3, none⟩ = some _ := HBq.out.1 3 _ rfl
          have q4 : w8.cell? ⟨W.heap.size, 4, none⟩ = some _ := HBq.out.1 4 _ rfl
          have q5 : w8.cell? ⟨W.heap.size, 5, none⟩ = some _ := HBq.out.1 5 _ rfl
          have q6 : w8.cell? ⟨W.heap.size, 6, none⟩ = some _ := HBq.out.1 6 _ rfl
          have q7 : w8.cell? ⟨W.heap.size, 7, none⟩ = some _ := HBq.out.1 7 _ rfl
          have q8 : w8.cell? ⟨W.heap.size, 8, none⟩ = some _ := HBq.out.1 8 _ rfl
          have q9 : w8.cell? ⟨W.heap.size, 9, none⟩ = some _ := HBq.out.1 9 _ rfl
          have q10 : w8.cell? ⟨W.heap.size, 10, none⟩ = some _ := HBq.out.1 10 _ rfl
          have q11 : w8.cell? ⟨W.heap.size, 11, none⟩ = some _ := HBq.out.1 11 _ rfl
          have q12 : w8.cell? ⟨W.heap.size, 12, none⟩ = some _ := HBq.out.1 12 _ rfl
          have HBp := Lib.hid hBp
          clear hBp
          go_wp2_with fail
          have hF := (((((((((((((HBp.out).set 0 (show 0 < 13 by decide) (.int .i64 1)).set 1 (show 1 < 13 by decide) (.string ⟨#[]⟩)).set 2 (show 2 < 13 by decide) (.bool y.1.f)).set 3 (show 3 < 13 by decide) (.int .u64 y.1.x)).set 4 (show 4 < 13 by decide) (.slice none 0 0)).set 5 (show 5 < 13 by decide) (.int .i64 k3)).set 6 (show 6 < 13 by decide) (.string nm3)).set 7 (show 7 < 13 by decide) (.bool f3)).set 8 (show 8 < 13 by decide) (.int .u64 u3)).set 9 (show 9 < 13 by decide) (.slice ap3 np3 cp3)).set 10 (show 10 < 13 by decide) (.slice ak3 nk3 ck3)).set 11 (show 11 < 13 by decide) (.slice ab3 nb3 cb3)).set 12 (show 12 < 13 by decide) (.slice aa3 na3 ca3)
          have v0 := hF.1 0 _ rfl
          have v1 := hF.1 1 _ rfl
          have v2 := hF.1 2 _ rfl
          have v3 := hF.1 3 _ rfl
          have v4 := hF.1 4 _ rfl
          have v5 := hF.1 5 _ rfl
          have v6 := hF.1 6 _ rfl
          have v7 := hF.1 7 _ rfl
          have v8 := hF.1 8 _ rfl
          have v9 := hF.1 9 _ rfl
          have v10 := hF.1 10 _ rfl
          have v11 := hF.1 11 _ rfl
          have v12 := hF.1 12 _ rfl
          refine bodyPost_ret (v := .agg #[.int .i64 1, .string ⟨#[]⟩, .bool y.1.f, .int .u64 y.1.x, .slice none 0 0, .int .i64 k3, .string nm3, .bool f3, .int .u64 u3, .slice ap3 np3 cp3, .slice ak3 nk3 ck3, .slice ab3 nb3 cb3, .slice aa3 na3 ca3]) (by simp [results, Tryz.results125, go_sem, v0, v1, v2, v3, v4, v5, v6, v7, v8, v9, v10, v11, v12]) rfl ?_
          rw [HP.out]
          refine ⟨⟨_, _, _, _, _, _, _, _, _, rfl, ?_, ?_⟩, (((((((((((((H8.out.1).over hlt _).over hlt _).over hlt _).over hlt _).over hlt _).over hlt _).over hlt _).over hlt _).over hlt _).over hlt _).over hlt _).over hlt _).over hlt _, (grown_new (grown_new (grown_new (grown_new (grown_new (grown_new (grown_new (grown_new (grown_new (grown_new (grown_new (grown_new (grown_new (grown_trans (grown_of (b := b) HX.out.1) H8.out.2.1) (Nat.le_refl _) _) (Nat.le_refl _) _) (Nat.le_refl _) _) (Nat.le_refl _) _) (Nat.le_refl _) _) (Nat.le_refl _) _) (Nat.le_refl _) _) (Nat.le_refl _) _) (Nat.le_refl _) _) (Nat.le_refl _) _) (Nat.le_refl _) _) (Nat.le_refl _) _) (Nat.le_refl _) _)⟩
          · exact RowAt.nil _ _ _ _
          · exact HT3.out.kp ((HK8.out _ _ (by omega)).trans (((((((((((((((((((((((((Kp.set _ _ _ _ (Or.inl (by omega)))).trans (Kp.set _ _ _ _ (Or.inl (by omega))))).trans (Kp.set _ _ _ _ (Or.inl (by omega))))).trans (Kp.set _ _ _ _ (Or.inl (by omega))))).trans (Kp.set _ _ _ _ (Or.inl (by omega))))).trans (Kp.set _ _ _ _ (Or.inl (by omega))))).trans (Kp.set _ _ _ _ (Or.inl (by omega))))).trans (Kp.set _ _ _ _ (Or.inl (by omega))))).trans (Kp.set _ _ _ _ (Or.inl (by omega))))).trans (Kp.set _ _ _ _ (Or.inl (by omega))))).trans (Kp.set _ _ _ _ (Or.inl (by omega))))).trans (Kp.set _ _ _ _ (Or.inl (by omega))))).trans (Kp.set _ _ _ _ (Or.inl (by omega))))) (by omega)
    · rw [decide_eq_false gs]
      have hp := HP.out
      rw [if_neg gs] at hp
      have HQ := Lib.hid hp
      clear hp gs HP
      have HP := HQ
      clear HQ
      have c0 := H3.out.2.2.env.name.1.1
      have c1 := H3.out.2.2.env.name.1.2
      have HC := Lib.hid (want_any b me ma last rest d sName (by decide) w3 H3.out.1)
      go_wp2_with fail
      refine HC.out.mono ?_
      rintro e w4 h
      cases ho : wantO sName last rest with
      | bad er ln =>
        rw [ho] at h
        obtain ⟨hbr, hg⟩ := h
        have hp := HP.out
        rw [ho, bind_bad] at hp
        have HB := Lib.hid (And.intro hp (grown_trans (grown_trans (grown_of (b := b) HX.out.1) H3.out.2.1) hg))
        unfold Broken at hbr
        subst hbr
        clear hg ho hp HC c0 c1
        go_wp2_with fail
        refine ⟨rfl, ?_⟩
        rw [HB.out.1]
        exact ⟨rfl, HB.out.2⟩
      | ok y l r =>
        rw [ho] at h
        obtain ⟨rfl, hR, hg⟩ := h
        have hlr := congrArg List.length (wantO_less (by decide) ho)
        simp only [List.length_cons] at hlr
        have hp := HP.out
        rw [ho, bind_ok] at hp
        have HQ := Lib.hid hp
        have hgW := grown_trans H3.out.2.1 hg
        have HG4 := Lib.hid hg
        have hsz4 : w3.heap.size ≤ w4.heap.size := hg.size
        have H4 := Lib.hid (And.intro hR (And.intro hgW (HX.out.2.2.2.later hgW)))
        clear hp ho HP HC hg hgW hR c0 c1
        have HP := HQ
        clear HQ
        have HBn := Lib.hid (boxw_grown HBq.out HG4.out (by omega))
        clear HBq
        have HBq := HBn
        clear HBn
        have hf1 := fun W => tok_field1 y.1.k (tx y.1.t) y.1.f y.1.x y.2 W
        have q0 : w4.cell? ⟨W.heap.size, 0, none⟩ = some _ := HBq.out.1 0 _ rfl
        have z0 : w4.frozen? ⟨W.heap.size, 0, none⟩ = false := HBq.out.2 0
        have q1 : w4.cell? ⟨W.heap.size, 1, none⟩ = some _ := HBq.out.1 1 _ rfl
        have z1 : w4.frozen? ⟨W.heap.size, 1, none⟩ = false := HBq.out.2 1
        have q2 : w4.cell? ⟨W.heap.size, 2, none⟩ = some _ := HBq.out.1 2 _ rfl
        have z2 : w4.frozen? ⟨W.heap.size, 2, none⟩ = false := HBq.out.2 2
        have q3 : w4.cell? ⟨W.heap.size, 3, none⟩ = some _ := HBq.out.1 3 _ rfl
        have z3 : w4.frozen? ⟨W.heap.size, 3, none⟩ = false := HBq.out.2 3
        have q4 : w4.cell? ⟨W.heap.size, 4, none⟩ = some _ := HBq.out.1 4 _ rfl
        have z4 : w4.frozen? ⟨W.heap.size, 4, none⟩ = false := HBq.out.2 4
        have q5 : w4.cell? ⟨W.heap.size, 5, none⟩ = some _ := HBq.out.1 5 _ rfl
        have z5 : w4.frozen? ⟨W.heap.size, 5, none⟩ = false := HBq.out.2 5
        have q6 : w4.cell? ⟨W.heap.size, 6, none⟩ = some _ := HBq.out.1 6 _ rfl
        have z6 : w4.frozen? ⟨W.heap.size, 6, none⟩ = false := HBq.out.2 6
        have q7 : w4.cell? ⟨W.heap.size, 7, none⟩ = some _ := HBq.out.1 7 _ rfl
        have z7 : w4.frozen? ⟨W.heap.size, 7, none⟩ = false := HBq.out.2 7
        have q8 : w4.cell? ⟨W.heap.size, 8, none⟩ = some _ := HBq.out.1 8 _ rfl
        have z8 : w4.frozen? ⟨W.heap.size, 8, none⟩ = false := HBq.out.2 8
        have q9 : w4.cell? ⟨W.heap.size, 9, none⟩ = some _ := HBq.out.1 9 _ rfl
        have z9 : w4.frozen? ⟨W.heap.size, 9, none⟩ = false := HBq.out.2 9
        have q10 : w4.cell? ⟨W.heap.size, 10, none⟩ = some _ := HBq.out.1 10 _ rfl
        have z10 : w4.frozen? ⟨W.heap.size, 10, none⟩ = false := HBq.out.2 10
        have q11 : w4.cell? ⟨W.heap.size, 11, none⟩ = some _ := HBq.out.1 11 _ rfl
        have z11 : w4.frozen? ⟨W.heap.size, 11, none⟩ = false := HBq.out.2 11
        have q12 : w4.cell? ⟨W.heap.size, 12, none⟩ = some _ := HBq.out.1 12 _ rfl
        have z12 : w4.frozen? ⟨W.heap.size, 12, none⟩ = false := HBq.out.2 12
        go_upto_region 8 with fail
        have HBn := Lib.hid (show BoxW (((((((((((((w4.setCell ⟨W.heap.size, 0, none⟩ (.int .i64 2)).setCell ⟨W.heap.size, 1, none⟩ (.string (tx y.1.t))).setCell ⟨W.heap.size, 2, none⟩ (.bool false)).setCell ⟨W.heap.size, 3, none⟩ (.int .u64 0)).setCell ⟨W.heap.size, 4, none⟩ (.slice none 0 0)).setCell ⟨W.heap.size, 5, none⟩ (.int .i64 0)).setCell ⟨W.heap.size, 6, none⟩ (.string ⟨#[]⟩)).setCell ⟨W.heap.size, 7, none⟩ (.bool false)).setCell ⟨W.heap.size, 8, none⟩ (.int .u64 0)).setCell ⟨W.heap.size, 9, none⟩ (.slice none 0 0)).setCell ⟨W.heap.size, 10, none⟩ (.slice none 0 0)).setCell ⟨W.heap.size, 11, none⟩ (.slice none 0 0)).setCell ⟨W.heap.size, 12, none⟩ (.slice none 0 0)) W.heap.size [.int .i64 2, .string (tx y.1.t), .bool false, .int .u64 0, .slice none 0 0, .int .i64 0, .string ⟨#[]⟩, .bool false, .int .u64 0, .slice none 0 0, .slice none 0 0, .slice none 0 0, .slice none 0 0] from (((((((((((((HBq.out).set 0 (show 0 < 13 by decide) (.int .i64 2)).set 1 (show 1 < 13 by decide) (.string (tx y.1.t))).set 2 (show 2 < 13 by decide) (.bool false)).set 3 (show 3 < 13 by decide) (.int .u64 0)).set 4 (show 4 < 13 by decide) (.slice none 0 0)).set 5 (show 5 < 13 by decide) (.int .i64 0)).set 6 (show 6 < 13 by decide) (.string ⟨#[]⟩)).set 7 (show 7 < 13 by decide) (.bool false)).set 8 (show 8 < 13 by decide) (.int .u64 0)).set 9 (show 9 < 13 by decide) (.slice none 0 0)).set 10 (show 10 < 13 by decide) (.slice none 0 0)).set 11 (show 11 < 13 by decide) (.slice none 0 0)).set 12 (show 12 < 13 by decide) (.slice none 0 0))
        have hgW : W.grownBy (((((((((((((w4.setCell ⟨W.heap.size, 0, none⟩ (.int .i64 2)).setCell ⟨W.heap.size, 1, none⟩ (.string (tx y.1.t))).setCell ⟨W.heap.size, 2, none⟩ (.bool false)).setCell ⟨W.heap.size, 3, none⟩ (.int .u64 0)).setCell ⟨W.heap.size, 4, none⟩ (.slice none 0 0)).setCell ⟨W.heap.size, 5, none⟩ (.int .i64 0)).setCell ⟨W.heap.size, 6, none⟩ (.string ⟨#[]⟩)).setCell ⟨W.heap.size, 7, none⟩ (.bool false)).setCell ⟨W.heap.size, 8, none⟩ (.int .u64 0)).setCell ⟨W.heap.size, 9, none⟩ (.slice none 0 0)).setCell ⟨W.heap.size, 10, none⟩ (.slice none 0 0)).setCell ⟨W.heap.size, 11, none⟩ (.slice none 0 0)).setCell ⟨W.heap.size, 12, none⟩ (.slice none 0 0)) (some b) := (grown_new (grown_new (grown_new (grown_new (grown_new (grown_new (grown_new (grown_new (grown_new (grown_new (grown_new (grown_new (grown_new H4.out.2.1 (show W.heap.size ≤ W.heap.size by omega) _) (show W.heap.size ≤ W.heap.size by omega) _) (show W.heap.size ≤ W.heap.size by omega) _) (show W.heap.size ≤ W.heap.size by omega) _) (show W.heap.size ≤ W.heap.size by omega) _) (show W.heap.size ≤ W.heap.size by omega) _) (show W.heap.size ≤ W.heap.size by omega) _) (show W.heap.size ≤ W.heap.size by omega) _) (show W.heap.size ≤ W.heap.size by omega) _) (show W.heap.size ≤ W.heap.size by omega) _) (show W.heap.size ≤ W.heap.size by omega) _) (show W.heap.size ≤ W.heap.size by omega) _) (show W.heap.size ≤ W.heap.size by omega) _)
        have hR : Rdr (((((((((((((w4.setCell ⟨W.heap.size, 0, none⟩ (.int .i64 2)).setCell ⟨W.heap.size, 1, none⟩ (.string (tx y.1.t))).setCell ⟨W.heap.size, 2, none⟩ (.bool false)).setCell ⟨W.heap.size, 3, none⟩ (.int .u64 0)).setCell ⟨W.heap.size, 4, none⟩ (.slice none 0 0)).setCell ⟨W.heap.size, 5, none⟩ (.int .i64 0)).setCell ⟨W.heap.size, 6, none⟩ (.string ⟨#[]⟩)).setCell ⟨W.heap.size, 7, none⟩ (.bool false)).setCell ⟨W.heap.size, 8, none⟩ (.int .u64 0)).setCell ⟨W.heap.size, 9, none⟩ (.slice none 0 0)).setCell ⟨W.heap.size, 10, none⟩ (.slice none 0 0)).setCell ⟨W.heap.size, 11, none⟩ (.slice none 0 0)).setCell ⟨W.heap.size, 12, none⟩ (.slice none 0 0)) b me ma (l) (r) d := (((((((((((((H4.out.1).over (show b < W.heap.size by omega) _).over (show b < W.heap.size by omega) _).over (show b < W.heap.size by omega) _).over (show b < W.heap.size by omega) _).over (show b < W.heap.size by omega) _).over (show b < W.heap.size by omega) _).over (show b < W.heap.size by omega) _).over (show b < W.heap.size by omega) _).over (show b < W.heap.size by omega) _).over (show b < W.heap.size by omega) _).over (show b < W.heap.size by omega) _).over (show b < W.heap.size by omega) _).over (show b < W.heap.size by omega) _
        have HK5 := Lib.hid (show ∀ lo hi, W.heap.size < lo → Kp lo hi w4 (((((((((((((w4.setCell ⟨W.heap.size, 0, none⟩ (.int .i64 2)).setCell ⟨W.heap.size, 1, none⟩ (.string (tx y.1.t))).setCell ⟨W.heap.size, 2, none⟩ (.bool false)).setCell ⟨W.heap.size, 3, none⟩ (.int .u64 0)).setCell ⟨W.heap.size, 4, none⟩ (.slice none 0 0)).setCell ⟨W.heap.size, 5, none⟩ (.int .i64 0)).setCell ⟨W.heap.size, 6, none⟩ (.string ⟨#[]⟩)).setCell ⟨W.heap.size, 7, none⟩ (.bool false)).setCell ⟨W.heap.size, 8, none⟩ (.int .u64 0)).setCell ⟨W.heap.size, 9, none⟩ (.slice none 0 0)).setCell ⟨W.heap.size, 10, none⟩ (.slice none 0 0)).setCell ⟨W.heap.size, 11, none⟩ (.slice none 0 0)).setCell ⟨W.heap.size, 12, none⟩ (.slice none 0 0)) from fun lo hi h => (((((((((((((((((((((((((Kp.set _ _ _ _ (Or.inl h))).trans (Kp.set _ _ _ _ (Or.inl h)))).trans (Kp.set _ _ _ _ (Or.inl h)))).trans (Kp.set _ _ _ _ (Or.inl h)))).trans (Kp.set _ _ _ _ (Or.inl h)))).trans (Kp.set _ _ _ _ (Or.inl h)))).trans (Kp.set _ _ _ _ (Or.inl h)))).trans (Kp.set _ _ _ _ (Or.inl h)))).trans (Kp.set _ _ _ _ (Or.inl h)))).trans (Kp.set _ _ _ _ (Or.inl h)))).trans (Kp.set _ _ _ _ (Or.inl h)))).trans (Kp.set _ _ _ _ (Or.inl h)))).trans (Kp.set _ _ _ _ (Or.inl h))))
        have hsz5 : w4.heap.size ≤ (((((((((((((w4.setCell ⟨W.heap.size, 0, none⟩ (.int .i64 2)).setCell ⟨W.heap.size, 1, none⟩ (.string (tx y.1.t))).setCell ⟨W.heap.size, 2, none⟩ (.bool false)).setCell ⟨W.heap.size, 3, none⟩ (.int .u64 0)).setCell ⟨W.heap.size, 4, none⟩ (.slice none 0 0)).setCell ⟨W.heap.size, 5, none⟩ (.int .i64 0)).setCell ⟨W.heap.size, 6, none⟩ (.string ⟨#[]⟩)).setCell ⟨W.heap.size, 7, none⟩ (.bool false)).setCell ⟨W.heap.size, 8, none⟩ (.int .u64 0)).setCell ⟨W.heap.size, 9, none⟩ (.slice none 0 0)).setCell ⟨W.heap.size, 10, none⟩ (.slice none 0 0)).setCell ⟨W.heap.size, 11, none⟩ (.slice none 0 0)).setCell ⟨W.heap.size, 12, none⟩ (.slice none 0 0)).heap.size := by simp
        clear q0 z0 q1 z1 q2 z2 q3 z3 q4 z4 q5 z5 q6 z6 q7 z7 q8 z8 q9 z9 q10 z10 q11 z11 q12 z12
        have H5 := Lib.hid (And.intro hR (And.intro hgW (HX.out.2.2.2.later hgW)))
        clear hR hgW
        generalize (((((((((((((w4.setCell ⟨W.heap.size, 0, none⟩ (.int .i64 2)).setCell ⟨W.heap.size, 1, none⟩ (.string (tx y.1.t))).setCell ⟨W.heap.size, 2, none⟩ (.bool false)).setCell ⟨W.heap.size, 3, none⟩ (.int .u64 0)).setCell ⟨W.heap.size, 4, none⟩ (.slice none 0 0)).setCell ⟨W.heap.size, 5, none⟩ (.int .i64 0)).setCell ⟨W.heap.size, 6, none⟩ (.string ⟨#[]⟩)).setCell ⟨W.heap.size, 7, none⟩ (.bool false)).setCell ⟨W.heap.size, 8, none⟩ (.int .u64 0)).setCell ⟨W.heap.size, 9, none⟩ (.slice none 0 0)).setCell ⟨W.heap.size, 10, none⟩ (.slice none 0 0)).setCell ⟨W.heap.size, 11, none⟩ (.slice none 0 0)).setCell ⟨W.heap.size, 12, none⟩ (.slice none 0 0)) = w5 at *
        clear HBq
        have HBq := HBn
        clear HBn
        clear hf1
        have c0 := H5.out.2.2.env.arrow.1.1
        have c1 := H5.out.2.2.env.arrow.1.2
        have HC := Lib.hid (want_any b me ma l r d sArrow (by decide) w5 H5.out.1)
        go_wp2_with fail
        refine HC.out.mono ?_
        rintro e w6 h
        cases ho : wantO sArrow l r with
        | bad er ln =>
          rw [ho] at h
          obtain ⟨hbr, hg⟩ := h
          have hp := HP.out
          rw [ho, bind_bad] at hp
          have HB := Lib.hid (And.intro hp (grown_trans (grown_trans (grown_of (b := b) HX.out.1) H5.out.2.1) hg))
          unfold Broken at hbr
          subst hbr
          clear hg ho hp HC c0 c1
          go_wp2_with fail
          refine ⟨rfl, ?_⟩
          rw [HB.out.1]
          exact ⟨rfl, HB.out.2⟩
        | ok y2 l2 r2 =>
          rw [ho] at h
          obtain ⟨rfl, hR, hg⟩ := h
          have hlr2 := congrArg List.length (wantO_less (by decide) ho)
          simp only [List.length_cons] at hlr2
          have hp := HP.out
          rw [ho, bind_ok] at hp
          have HQ := Lib.hid hp
          have hgW := grown_trans H5.out.2.1 hg
          have HG6 := Lib.hid hg
          have hsz6 : w5.heap.size ≤ w6.heap.size := hg.size
          have H6 := Lib.hid (And.intro hR (And.intro hgW (HX.out.2.2.2.later hgW)))
          clear hp ho HP HC hg hgW hR c0 c1
          have HP := HQ
          clear HQ
          have HBn := Lib.hid (boxw_grown HBq.out HG6.out (by omega))
          clear HBq
          have HBq := HBn
          clear HBn
          have HC := Lib.hid (hEx l2 r2 w6 (by omega) (by omega) H6.out.2.2 H6.out.1)
          go_wp2_with fail
          refine HC.out.mono ?_
          rintro e w7 h
          cases ho : exprO n d l2 r2 with
          | bad er ln =>
            rw [ho] at h
            obtain ⟨hbr, hg⟩ := h
            have hp := HP.out
            rw [ho, bind_bad] at hp
            have HB := Lib.hid (And.intro hp (grown_trans (grown_trans (grown_of (b := b) HX.out.1) H6.out.2.1) hg))
            unfold Broken at hbr
            subst hbr
            clear hg ho hp HC 
            go_wp2_with fail
            refine ⟨rfl, ?_⟩
            rw [HB.out.1]
            exact ⟨rfl, HB.out.2⟩
          | ok x l3 r3 =>
            rw [ho] at h
            have hlr3 : r3.length ≤ r2.length := by have h := expr_shrinks n d l2 r2; rw [ho] at h; exact h
            obtain ⟨⟨k3, nm3, f3, u3, vp, vk, vb, va, rfl, hat⟩, hR, hg⟩ := h
            obtain ⟨⟨ap3, np3, cp3, rfl⟩, ⟨ak3, nk3, ck3, rfl⟩, ⟨ab3, nb3, cb3, rfl⟩, ⟨aa3, na3, ca3, rfl⟩⟩ := hat.slices
            have HT3 := Lib.hid hat
            clear hat
            have hp := HP.out
            rw [ho, bind_ok] at hp
            have HQ := Lib.hid hp
            have hgW := grown_trans H6.out.2.1 hg
            have HG7 := Lib.hid hg
            have hsz7 : w6.heap.size ≤ w7.heap.size := hg.size
            have H7 := Lib.hid (And.intro hR (And.intro hgW (HX.out.2.2.2.later hgW)))
            clear hp ho HP HC hg hgW hR 
            have HP := HQ
            clear HQ
            have HBn := Lib.hid (boxw_grown HBq.out HG7.out (by omega))
            clear HBq
            have HBq := HBn
            clear HBn
            have q5 : w7.cell? ⟨W.heap.size, 5, none⟩ = some _ := HBq.out.1 5 _ rfl
            have z5 : w7.frozen? ⟨W.heap.size, 5, none⟩ = false := HBq.out.2 5
            have q6 : w7.cell? ⟨W.heap.size, 6, none⟩ = some _ := HBq.out.1 6 _ rfl
            have z6 : w7.frozen? ⟨W.heap.size, 6, none⟩ = false := HBq.out.2 6
            have q7 : w7.cell? ⟨W.heap.size, 7, none⟩ = some _ := HBq.out.1 7 _ rfl
            have z7 : w7.frozen? ⟨W.heap.size, 7, none⟩ = false := HBq.out.2 7
            have q8 : w7.cell? ⟨W.heap.size, 8, none⟩ = some _ := HBq.out.1 8 _ rfl
            have z8 : w7.frozen? ⟨W.heap.size, 8, none⟩ = false := HBq.out.2 8
            have q9 : w7.cell? ⟨W.heap.size, 9, none⟩ = some _ := HBq.out.1 9 _ rfl
            have z9 : w7.frozen? ⟨W.heap.size, 9, none⟩ = false := HBq.out.2 9
            have q10 : w7.cell? ⟨W.heap.size, 10, none⟩ = some _ := HBq.out.1 10 _ rfl
            have z10 : w7.frozen? ⟨W.heap.size, 10, none⟩ = false := HBq.out.2 10
            have q11 : w7.cell? ⟨W.heap.size, 11, none⟩ = some _ := HBq.out.1 11 _ rfl
            have z11 : w7.frozen? ⟨W.heap.size, 11, none⟩ = false := HBq.out.2 11
            have q12 : w7.cell? ⟨W.heap.size, 12, none⟩ = some _ := HBq.out.1 12 _ rfl
            have z12 : w7.frozen? ⟨W.heap.size, 12, none⟩ = false := HBq.out.2 12
            go_upto_region 10 with fail
            have HBn := Lib.hid (show BoxW ((((((((w7.setCell ⟨W.heap.size, 5, none⟩ (.int .i64 k3)).setCell ⟨W.heap.size, 6, none⟩ (.string nm3)).setCell ⟨W.heap.size, 7, none⟩ (.bool f3)).setCell ⟨W.heap.size, 8, none⟩ (.int .u64 u3)).setCell ⟨W.heap.size, 9, none⟩ (.slice ap3 np3 cp3)).setCell ⟨W.heap.size, 10, none⟩ (.slice ak3 nk3 ck3)).setCell ⟨W.heap.size, 11, none⟩ (.slice ab3 nb3 cb3)).setCell ⟨W.heap.size, 12, none⟩ (.slice aa3 na3 ca3)) W.heap.size [.int .i64 2, .string (tx y.1.t), .bool false, .int .u64 0, .slice none 0 0, .int .i64 k3, .string nm3, .bool f3, .int .u64 u3, .slice ap3 np3 cp3, .slice ak3 nk3 ck3, .slice ab3 nb3 cb3, .slice aa3 na3 ca3] from ((((((((HBq.out).set 5 (show 5 < 13 by decide) (.int .i64 k3)).set 6 (show 6 < 13 by decide) (.string nm3)).set 7 (show 7 < 13 by decide) (.bool f3)).set 8 (show 8 < 13 by decide) (.int .u64 u3)).set 9 (show 9 < 13 by decide) (.slice ap3 np3 cp3)).set 10 (show 10 < 13 by decide) (.slice ak3 nk3 ck3)).set 11 (show 11 < 13 by decide) (.slice ab3 nb3 cb3)).set 12 (show 12 < 13 by decide) (.slice aa3 na3 ca3))
            have hgW : W.grownBy ((((((((w7.setCell ⟨W.heap.size, 5, none⟩ (.int .i64 k3)).setCell ⟨W.heap.size, 6, none⟩ (.string nm3)).setCell ⟨W.heap.size, 7, none⟩ (.bool f3)).setCell ⟨W.heap.size, 8, none⟩ (.int .u64 u3)).setCell ⟨W.heap.size, 9, none⟩ (.slice ap3 np3 cp3)).setCell ⟨W.heap.size, 10, none⟩ (.slice ak3 nk3 ck3)).setCell ⟨W.heap.size, 11, none⟩ (.slice ab3 nb3 cb3)).setCell ⟨W.heap.size, 12, none⟩ (.slice aa3 na3 ca3)) (some b) := (grown_new (grown_new (grown_new (grown_new (grown_new (grown_new (grown_new (grown_new H7.out.2.1 (show W.heap.size ≤ W.heap.size by omega) _) (show W.heap.size ≤ W.heap.size by omega) _) (show W.heap.size ≤ W.heap.size by omega) _) (show W.heap.size ≤ W.heap.size by omega) _) (show W.heap.size ≤ W.heap.size by omega) _) (show W.heap.size ≤ W.heap.size by omega) _) (show W.heap.size ≤ W.heap.size by omega) _) (show W.heap.size ≤ W.heap.size by omega) _)
            have hR : Rdr ((((((((w7.setCell ⟨W.heap.size, 5, none⟩ (.int .i64 k3)).setCell ⟨W.heap.size, 6, none⟩ (.string nm3)).setCell ⟨W.heap.size, 7, none⟩ (.bool f3)).setCell ⟨W.heap.size, 8, none⟩ (.int .u64 u3)).setCell ⟨W.heap.size, 9, none⟩ (.slice ap3 np3 cp3)).setCell ⟨W.heap.size, 10, none⟩ (.slice ak3 nk3 ck3)).setCell ⟨W.heap.size, 11, none⟩ (.slice ab3 nb3 cb3)).setCell ⟨W.heap.size, 12, none⟩ (.slice aa3 na3 ca3)) b me ma (l3) (r3) d := ((((((((H7.out.1).over (show b < W.heap.size by omega) _).over (show b < W.heap.size by omega) _).over (show b < W.heap.size by omega) _).over (show b < W.heap.size by omega) _).over (show b < W.heap.size by omega) _).over (show b < W.heap.size by omega) _).over (show b < W.heap.size by omega) _).over (show b < W.heap.size by omega) _
            have HK8 := Lib.hid (show ∀ lo hi, W.heap.size < lo → Kp lo hi w7 ((((((((w7.setCell ⟨W.heap.size, 5, none⟩ (.int .i64 k3)).setCell ⟨W.heap.size, 6, none⟩ (.string nm3)).setCell ⟨W.heap.size, 7, none⟩ (.bool f3)).setCell ⟨W.heap.size, 8, none⟩ (.int .u64 u3)).setCell ⟨W.heap.size, 9, none⟩ (.slice ap3 np3 cp3)).setCell ⟨W.heap.size, 10, none⟩ (.slice ak3 nk3 ck3)).setCell ⟨W.heap.size, 11, none⟩ (.slice ab3 nb3 cb3)).setCell ⟨W.heap.size, 12, none⟩ (.slice aa3 na3 ca3)) from fun lo hi h => (((((((((((((((Kp.set _ _ _ _ (Or.inl h))).trans (Kp.set _ _ _ _ (Or.inl h)))).trans (Kp.set _ _ _ _ (Or.inl h)))).trans (Kp.set _ _ _ _ (Or.inl h)))).trans (Kp.set _ _ _ _ (Or.inl h)))).trans (Kp.set _ _ _ _ (Or.inl h)))).trans (Kp.set _ _ _ _ (Or.inl h)))).trans (Kp.set _ _ _ _ (Or.inl h))))
            have hsz8 : w7.heap.size ≤ ((((((((w7.setCell ⟨W.heap.size, 5, none⟩ (.int .i64 k3)).setCell ⟨W.heap.size, 6, none⟩ (.string nm3)).setCell ⟨W.heap.size, 7, none⟩ (.bool f3)).setCell ⟨W.heap.size, 8, none⟩ (.int .u64 u3)).setCell ⟨W.heap.size, 9, none⟩ (.slice ap3 np3 cp3)).setCell ⟨W.heap.size, 10, none⟩ (.slice ak3 nk3 ck3)).setCell ⟨W.heap.size, 11, none⟩ (.slice ab3 nb3 cb3)).setCell ⟨W.heap.size, 12, none⟩ (.slice aa3 na3 ca3)).heap.size := by simp
            clear q5 z5 q6 z6 q7 z7 q8 z8 q9 z9 q10 z10 q11 z11 q12 z12
            have H8 := Lib.hid (And.intro hR (And.intro hgW (HX.out.2.2.2.later hgW)))
            clear hR hgW
            generalize ((((((((w7.setCell ⟨W.heap.size, 5, none⟩ (.int .i64 k3)).setCell ⟨W.heap.size, 6, none⟩ (.string nm3)).setCell ⟨W.heap.size, 7, none⟩ (.bool f3)).setCell ⟨W.heap.size, 8, none⟩ (.int .u64 u3)).setCell ⟨W.heap.size, 9, none⟩ (.slice ap3 np3 cp3)).setCell ⟨W.heap.size, 10, none⟩ (.slice ak3 nk3 ck3)).setCell ⟨W.heap.size, 11, none⟩ (.slice ab3 nb3 cb3)).setCell ⟨W.heap.size, 12, none⟩ (.slice aa3 na3 ca3)) = w8 at *
            clear HBq
            have HBq := HBn
            clear HBn
            have hBp : BoxW w8 w.heap.size [.int .i64 0, .string ⟨#[]⟩, .bool false, .int .u64 0, .slice none 0 0, .int .i64 0, .string ⟨#[]⟩, .bool false, .int .u64 0, .slice none 0 0, .slice none 0 0, .slice none 0 0, .slice none 0 0] := boxw_grown HX.out.2.2.1 H8.out.2.1 (by omega)
            have d0 : w8.cell? ⟨w.heap.size, 0, none⟩ = some _ := hBp.1 0 _ rfl
            have d1 : w8.cell? ⟨w.heap.size, 1, none⟩ = some _ := hBp.1 1 _ rfl
            have d2 : w8.cell? ⟨w.heap.size, 2, none⟩ = some _ := hBp.1 2 _ rfl
            have d3 : w8.cell? ⟨w.heap.size, 3, none⟩ = some _ := hBp.1 3 _ rfl
            have d4 : w8.cell? ⟨w.heap.size, 4, none⟩ = some _ := hBp.1 4 _ rfl
            have d5 : w8.cell? ⟨w.heap.size, 5, none⟩ = some _ := hBp.1 5 _ rfl
            have d6 : w8.cell? ⟨w.heap.size, 6, none⟩ = some _ := hBp.1 6 _ rfl
            have d7 : w8.cell? ⟨w.heap.size, 7, none⟩ = some _ := hBp.1 7 _ rfl
            have d8 : w8.cell? ⟨w.heap.size, 8, none⟩ = some _ := hBp.1 8 _ rfl
            have d9 : w8.cell? ⟨w.heap.size, 9, none⟩ = some _ := hBp.1 9 _ rfl
            have d10 : w8.cell? ⟨w.heap.size, 10, none⟩ = some _ := hBp.1 10 _ rfl
            have d11 : w8.cell? ⟨w.heap.size, 11, none⟩ = some _ := hBp.1 11 _ rfl
            have d12 : w8.cell? ⟨w.heap.size, 12, none⟩ = some _ := hBp.1 12 _ rfl
            have z0 : w8.frozen? ⟨w.heap.size, 0, none⟩ = false := hBp.2 0
            have z1 : w8.frozen? ⟨w.heap.size, 1, none⟩ = false := hBp.2 1
            have z2 : w8.frozen? ⟨w.heap.size, 2, none⟩ = false := hBp.2 2
            have z3 : w8.frozen? ⟨w.heap.size, 3, none⟩ = false := hBp.2 3
            have z4 : w8.frozen? ⟨w.heap.size, 4, none⟩ = false := hBp.2 4
            have z5 : w8.frozen? ⟨w.heap.size, 5, none⟩ = false := hBp.2 5
            have z6 : w8.frozen? ⟨w.heap.size, 6, none⟩ = false := hBp.2 6
            have z7 : w8.frozen? ⟨w.heap.size, 7, none⟩ = false := hBp.2 7
            have z8 : w8.frozen? ⟨w.heap.size, 8, none⟩ = false := hBp.2 8
            have z9 : w8.frozen? ⟨w.heap.size, 9, none⟩ = false := hBp.2 9
            have z10 : w8.frozen? ⟨w.heap.size, 10, none⟩ = false := hBp.2 10
            have z11 : w8.frozen? ⟨w.heap.size, 11, none⟩ = false := hBp.2 11
            have z12 : w8.frozen? ⟨w.heap.size, 12, none⟩ = false := hBp.2 12
            have q0 : w8.cell? ⟨W.heap.size, 0, none⟩ = some _ := HBq.out.1 0 _ rfl
            have q1 : w8.cell? ⟨W.heap.size, 1, none⟩ = some _ := HBq.out.1 1 _ rfl
            have q2 : w8.cell? ⟨W.heap.size, 2, none⟩ = some _ := HBq.out.1 2 _ rfl
            have q3 : w8.cell? ⟨W.heap.size, 3, none⟩ = some _ := HBq.out.1 3 _ rfl
            have q4 : w8.cell? ⟨W.heap.size, 4, none⟩ = some _ := HBq.out.1 4 _ rfl
            have q5 : w8.cell? ⟨W.heap.size, 5, none⟩ = some _ := HBq.out.1 5 _ rfl
            have q6 : w8.cell? ⟨W.heap.size, 6, none⟩ = some _ := HBq.out.1 6 _ rfl
            have q7 : w8.cell? ⟨W.heap.size, 7, none⟩ = some _ := HBq.out.1 7 _ rfl
            have q8 : w8.cell? ⟨W.heap.size, 8, none⟩ = some _ := HBq.out.1 8 _ rfl
            have q9 : w8.cell? ⟨W.heap.size, 9, none⟩ = some _ := HBq.out.1 9 _ rfl
            have q10 : w8.cell? ⟨W.heap.size, 10, none⟩ = some _ := HBq.out.1 10 _ rfl
            have q11 : w8.cell? ⟨W.heap.size, 11, none⟩ = some _ := HBq.out.1 11 _ rfl
            have q12 : w8.cell? ⟨W.heap.size, 12, none⟩ = some _ := HBq.out.1 12 _ rfl
            have HBp := Lib.hid hBp
            clear hBp
            go_wp2_with fail
            have hF := (((((((((((((HBp.out).set 0 (show 0 < 13 by decide) (.int .i64 2)).set 1 (show 1 < 13 by decide) (.string (tx y.1.t))).set 2 (show 2 < 13 by decide) (.bool false)).set 3 (show 3 < 13 by decide) (.int .u64 0)).set 4 (show 4 < 13 by decide) (.slice none 0 0)).set 5 (show 5 < 13 by decide) (.int .i64 k3)).set 6 (show 6 < 13 by decide) (.string nm3)).set 7 (show 7 < 13 by decide) (.bool f3)).set 8 (show 8 < 13 by decide) (.int .u64 u3)).set 9 (show 9 < 13 by decide) (.slice ap3 np3 cp3)).set 10 (show 10 < 13 by decide) (.slice ak3 nk3 ck3)).set 11 (show 11 < 13 by decide) (.slice ab3 nb3 cb3)).set 12 (show 12 < 13 by decide) (.slice aa3 na3 ca3)
            have v0 := hF.1 0 _ rfl
            have v1 := hF.1 1 _ rfl
            have v2 := hF.1 2 _ rfl
            have v3 := hF.1 3 _ rfl
            have v4 := hF.1 4 _ rfl
            have v5 := hF.1 5 _ rfl
            have v6 := hF.1 6 _ rfl
            have v7 := hF.1 7 _ rfl
            have v8 := hF.1 8 _ rfl
            have v9 := hF.1 9 _ rfl
            have v10 := hF.1 10 _ rfl
            have v11 := hF.1 11 _ rfl
            have v12 := hF.1 12 _ rfl
            refine bodyPost_ret (v := .agg #[.int .i64 2, .string (tx y.1.t), .bool false, .int .u64 0, .slice none 0 0, .int .i64 k3, .string nm3, .bool f3, .int .u64 u3, .slice ap3 np3 cp3, .slice ak3 nk3 ck3, .slice ab3 nb3 cb3, .slice aa3 na3 ca3]) (by simp [results, Tryz.results125, go_sem, v0, v1, v2, v3, v4, v5, v6, v7, v8, v9, v10, v11, v12]) rfl ?_
            rw [HP.out]
            refine ⟨⟨_, _, _, _, _, _, _, _, _, rfl, ?_, ?_⟩, (((((((((((((H8.out.1).over hlt _).over hlt _).over hlt _).over hlt _).over hlt _).over hlt _).over hlt _).over hlt _).over hlt _).over hlt _).over hlt _).over hlt _).over hlt _, (grown_new (grown_new (grown_new (grown_new (grown_new (grown_new (grown_new (grown_new (grown_new (grown_new (grown_new (grown_new (grown_new (grown_trans (grown_of (b := b) HX.out.1) H8.out.2.1) (Nat.le_refl _) _) (Nat.le_refl _) _) (Nat.le_refl _) _) (Nat.le_refl _) _) (Nat.le_refl _) _) (Nat.le_refl _) _) (Nat.le_refl _) _) (Nat.le_refl _) _) (Nat.le_refl _) _) (Nat.le_refl _) _) (Nat.le_refl _) _) (Nat.le_refl _) _) (Nat.le_refl _) _)⟩
            · exact RowAt.nil _ _ _ _
            · exact HT3.out.kp ((HK8.out _ _ (by omega)).trans (((((((((((((((((((((((((Kp.set _ _ _ _ (Or.inl (by omega)))).trans (Kp.set _ _ _ _ (Or.inl (by omega))))).trans (Kp.set _ _ _ _ (Or.inl (by omega))))).trans (Kp.set _ _ _ _ (Or.inl (by omega))))).trans (Kp.set _ _ _ _ (Or.inl (by omega))))).trans (Kp.set _ _ _ _ (Or.inl (by omega))))).trans (Kp.set _ _ _ _ (Or.inl (by omega))))).trans (Kp.set _ _ _ _ (Or.inl (by omega))))).trans (Kp.set _ _ _ _ (Or.inl (by omega))))).trans (Kp.set _ _ _ _ (Or.inl (by omega))))).trans (Kp.set _ _ _ _ (Or.inl (by omega))))).trans (Kp.set _ _ _ _ (Or.inl (by omega))))).trans (Kp.set _ _ _ _ (Or.inl (by omega))))) (by omega)

end Go.Proofs.YtbnmmbjajheedaaGreatDoor
