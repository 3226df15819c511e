import Derived.Deep.RegionHeld3
import Derived.Test.YtbnmmbjajheedaaGreatDoorMg3
namespace Go.Proofs.YtbnmmbjajheedaaGreatDoor
set_option maxHeartbeats 64000000
set_option maxRecDepth 100000
open Go.RowKit Go.Lib
theorem grown_of {w w' : World} {b : Nat} (h : Below w.heap.size w w') : w.grownBy w' (some b) := ⟨h.os, h.tape, h.output, h.size, fun k hk _ => h.block k hk⟩
theorem Gt {w w' w'' : World} {b : Nat} (h : w.grownBy w' (some b)) (h2 : w'.grownBy w'' (some b)) : w.grownBy w'' (some b) :=
 ⟨h2.os.trans h.os, h2.tape.trans h.tape, h2.output.trans h.output, Nt h.size h2.size, fun k hk hne => (h2.block k (Nat.lt_of_lt_of_le hk h.size) hne).trans (h.block k hk hne)⟩
theorem Env8.later {w w' : World} {b : Nat} (h : Env8 w b) (hb : w.grownBy w' (some b)) : Env8 w' b := ⟨h.letw.later hb, h.casew.later hb, h.lam.later hb, h.name.later hb, h.con.later hb, h.num.later hb, h.back.later hb, h.opn.later hb, h.data.later hb, h.semi.later hb, h.inw.later hb, h.ofw.later hb, h.curl.later hb, h.lruc.later hb, h.arrow.later hb, h.sign.later hb, h.shut.later hb, h.eq.later hb⟩
theorem TokIn.later {w w' : World} {g o : Nat} {y : Tok} (h : TokIn w g o y) {b : Nat} (hg : g ≠ b) (hb : w.grownBy w' (some b)) : TokIn w' g o y := by
 have hn : ∀ {j}, some (⟨g, j, none⟩ : Addr).block ≠ some b := by simpa using hg
 exact ⟨hb.cell h.1 hn, hb.cell h.2.1 hn, hb.cell h.2.2.1 hn, hb.cell h.2.2.2.1 hn, hb.cell h.2.2.2.2 hn⟩
theorem RestIn.later {w w' : World} {b : Nat} {v : Value} {rest : List Tok} (h : RestIn w b v rest) (hb : w.grownBy w' (some b)) : RestIn w' b v rest := by
 obtain ⟨a, c, e, h1, h2, h3⟩ := h
 refine ⟨a, c, e, h1, h2, ?_⟩
 rcases h3 with h3 | ⟨g, o, e2, hg, ht⟩
 ·exact Or.inl h3
 ·exact Or.inr ⟨g, o, e2, hg, fun i hi => (ht i hi).later (Nat.ne_of_lt hg) hb⟩
theorem Rdr.later {w w' : World} {b me ma : Nat} {last : Int} {rest : List Tok} {d : Nat} (h : Rdr w b me ma last rest d) (hb : Below w.heap.size w w') : Rdr w' b me ma last rest d := by
 obtain ⟨v, hv, hr⟩ := h.c0
 have lt := Bl hv
 exact ⟨⟨v, later' hb hv, hr.later (grown_of hb)⟩, later' hb h.c1, later' hb h.c2, later' hb h.c3, later' hb h.c4, fun j => (World.frozen?_of_block (w := w) (hb.block _ (by simpa using lt))).trans (h.z j)⟩
def tokO : List Tok → Tok
 | [] => (⟨0, [], false, 0⟩, 0)
 | x :: _ => x
def TokSaid (y : Tok) (w : World) (e : Ending) (w' : World) : Prop := e = .returned (.agg #[.int .i64 y.1.k, .string (tx y.1.t), .bool y.1.f, .int .u64 y.1.x, .int .i64 y.2]) ∧ Below w.heap.size w w'
theorem ahead_any (b me ma : Nat) (last : Int) (rest : List Tok) (d : Nat) (w : World) (hR : Rdr w b me ma last rest d) : Calls Tryz.prog 124 #[.pointer (some ⟨b, 0, none⟩)] w (TokSaid (tokO rest) w) := by
 have hx : Below w.heap.size w (w.alloc (.cells #[.int .i64 0, .string ⟨#[]⟩, .bool false, .int .u64 0, .int .i64 0] 41)) := Br.alloc Nr _
 have hR2 := hR.later hx
 have HX := Hd hx
 clear hx hR
 go_enter Tryz.func124, Tryz.ntmps124
 go_upto_region 1 with fail
 obtain ⟨v, hv, a, c, rfl, hc, hm, hr⟩ := hR2.c0
 cases rest with
 | nil =>
  clear hR2 hr
  go_wp2_with fail
  refine bodyPost_ret (v := .agg #[.int .i64 0, .string ⟨#[]⟩, .bool false, .int .u64 0, .int .i64 0]) (by simp [results, Tryz.results124, go_sem]) rfl ?_
  exact ⟨rfl, Br.alloc Nr _⟩
 | cons y r =>
  rcases hr with hr | ⟨g, o, rfl, hg, ht⟩
  ·cases hr
  have h0 := ht 0 (by simp)
  obtain ⟨p0, p1, p2, p3, p4⟩ := h0
  simp only [Nat.zero_mul, Nat.add_zero, List.getElem_cons_zero] at p0 p1 p2 p3 p4
  simp only [List.length_cons] at hv hc
  clear hR2 ht
  go_wp2_with fail
  refine bodyPost_ret (v := .agg #[.int .i64 y.1.k, .string (tx y.1.t), .bool y.1.f, .int .u64 y.1.x, .int .i64 y.2]) (by simp [results, Tryz.results124, go_sem]) rfl ?_
  exact ⟨rfl, Br.alloc Nr _⟩
theorem shapeL_tok (rest : List Tok) : shapeT (tokO rest).1 = shapeL rest := by
 cases rest with
 | nil => rfl
 | cons y r => rfl
def IsSaid (v : Bool) (w : World) (e : Ending) (w' : World) : Prop := e = .returned (.bool v) ∧ Below w.heap.size w w'
theorem IsSaid.mk {u v : Bool} {w w' : World} (h : u = v) (hb : Below w.heap.size w w') : IsSaid v w (.returned (.bool u)) w' := ⟨by rw [h], hb⟩
theorem isAhead_raw (b me ma : Nat) (last : Int) (rest : List Tok) (d : Nat) (s : Sh) (w : World) (hR : Rdr w b me ma last rest d) (y : Tok) (hy : tokO rest = y) : Calls Tryz.prog 87 #[.pointer (some ⟨b, 0, none⟩), .agg #[.int .i64 s.1, .string (tx s.2)]] w (IsSaid (decide (shapeT y.1 = s)) w) := by
 have hx : Below w.heap.size w (w.alloc (.cells #[.int .i64 s.1, .string (tx s.2)] 105)) := Br.alloc Nr _
 have c0 : (w.alloc (.cells #[.int .i64 s.1, .string (tx s.2)] 105)).cell? ⟨w.heap.size, 0, none⟩ = some (.int .i64 s.1) := by simp [go_sem]
 have c1 : (w.alloc (.cells #[.int .i64 s.1, .string (tx s.2)] 105)).cell? ⟨w.heap.size, 1, none⟩ = some (.string (tx s.2)) := by simp [go_sem]
 have HX := Hd (Ai hx (Ai (hR.later hx) (Ai c0 c1)))
 clear hx hR c0 c1
 go_enter Tryz.func87, Tryz.ntmps87
 go_upto_region 1 with fail
 generalize (w.alloc (.cells #[.int .i64 s.1, .string (tx s.2)] 105)) = W at *
 generalize hpb : w.heap.size = p at *
 have HP := Hd hpb
 clear hpb
 obtain ⟨hb, hR, c0, c1⟩ := HX.out
 have HB0 := Hd hb
 have hA := Hd (hy ▸ ahead_any b me ma last rest d : ∀ (w : World), Rdr w b me ma last rest d → Calls Tryz.prog 124 #[.pointer (some ⟨b, 0, none⟩)] w (TokSaid y w))
 have hE := shape_eql (shapeT y.1) s
 have hdr : Below W.heap.size W W.drew := ⟨rfl, rfl, rfl, Nat.le_refl _, fun _ _ => rfl⟩
 have HRD := Hd (Ai hR (hR.later hdr))
 clear hdr
 clear hb hR hy
 go_region_held3 (fun w' => w'.cell? ⟨p, 0, none⟩ = some (.int .i64 s.1) ∧ w'.cell? ⟨p, 1, none⟩ = some (.string (tx s.2))) (first | exact ⟨hk0, hk1⟩ | go_keep)
  (first
   | (go_at_call 124; refine (hA.out _ (by first | exact HRD.out.1 | exact HRD.out.2)).mono ?_; rintro e w2 ⟨rfl, hb2⟩; have hk0 := later' hb2 c0; have hk1 := later' hb2 c1; have H2 := Hd hb2; clear hb2)
   | (go_at_call 123; refine (shapeOf_any y _).mono ?_; rintro e w3 ⟨rfl, hb3⟩; have hk2 := later' hb3 hk0; have hk3 := later' hb3 hk1; have H3 := Hd hb3; clear hb3))
 all_goals
  go_wp2_with fail
  go_ret
  have hb0 : Below w.heap.size w W := by rw [HP.out]; exact HB0.out
  exact IsSaid.mk rfl (onB' (onB' hb0.drew H2.out) H3.out)
theorem isAhead_any (b me ma : Nat) (last : Int) (rest : List Tok) (d : Nat) (s : Sh) (w : World) (hR : Rdr w b me ma last rest d) : Calls Tryz.prog 87 #[.pointer (some ⟨b, 0, none⟩), .agg #[.int .i64 s.1, .string (tx s.2)]] w (IsSaid (decide (shapeL rest = s)) w) := by
 have h := isAhead_raw b me ma last rest d s w hR _ rfl
 rwa [shapeL_tok] at h
theorem restIn_cons {w : World} {b : Nat} {v : Value} {y : Tok} {r : List Tok} (h : RestIn w b v (y :: r)) : ∃ g o c, v = .slice (some ⟨g, o, none⟩) (r.length + 1) c ∧ g < b ∧ r.length + 1 ≤ c ∧ c ≤ maxLen ∧ TokIn w g o y ∧ (∀ a', (c = r.length + 1 ∧ r = [] ∨ a' = some ⟨g, o + 5, none⟩) → RestIn w b (.slice a' r.length (c - 1)) r) := by
 obtain ⟨a, c, rfl, hc, hm, hr⟩ := h
 rcases hr with hr | ⟨g, o, rfl, hg, ht⟩
 ·cases hr
 simp only [List.length_cons] at hc
 refine ⟨g, o, c, rfl, hg, hc, hm, ?_, ?_⟩
 ·have := ht 0 (by simp)
  simpa using this
 ·intro a' ha
  refine ⟨a', c - 1, rfl, by omega, by omega, ?_⟩
  rcases ha with ⟨_, rfl⟩ | rfl
  ·exact Or.inl rfl
  ·refine Or.inr ⟨g, o + 5, rfl, hg, fun i hi => ?_⟩
   have := ht (i + 1) (by simpa using hi)
   rw [List.getElem_cons_succ] at this
   have e : o + (i + 1) * 5 = o + 5 + i * 5 := by omega
   rwa [e] at this
theorem set_grown (W : World) (b o : Nat) (v : Value) : W.grownBy (W.setCell ⟨b, o, none⟩ v) (some b) :=
 ⟨rfl, rfl, rfl, by simp [World.setCell], fun k _ hne => Below.heap_setCell _ _ _ _ (fun e => hne (by simp at e; rw [e]))⟩
theorem at_oth (W : World) (b i j : Nat) (v : Value) (h : i ≠ j) : (W.setCell ⟨b, i, none⟩ v).cell? ⟨b, j, none⟩ = W.cell? ⟨b, j, none⟩ := World.cell?_setCell_other _ _ _ _ (by first | (intro e; cases e; exact h rfl) | simp [h])
theorem at_far (W : World) (b c i j : Nat) (v : Value) (h : b ≠ c) : (W.setCell ⟨b, i, none⟩ v).cell? ⟨c, j, none⟩ = W.cell? ⟨c, j, none⟩ := World.cell?_setCell_other _ _ _ _ (by first | (intro e; cases e; exact h rfl) | simp [h])
theorem at_sam {W : World} {b i : Nat} {u : Value} (v : Value) (h : W.cell? ⟨b, i, none⟩ = some u) : (W.setCell ⟨b, i, none⟩ v).cell? ⟨b, i, none⟩ = some v := World.cell?_setCell_same _ _ _ h
theorem Rdr.rest {W : World} {b me ma : Nat} {last : Int} {rest : List Tok} {d : Nat} (h : Rdr W b me ma last rest d) {v : Value} {r : List Tok} (hr : RestIn W b v r) : Rdr (W.setCell ⟨b, 0, none⟩ v) b me ma last r d := by
 obtain ⟨u, hu, -⟩ := h.c0
 exact ⟨⟨v, at_sam v hu, hr.later (set_grown ..)⟩, (at_oth _ _ _ _ _ (by decide)).trans h.c1, (at_oth _ _ _ _ _ (by decide)).trans h.c2, (at_oth _ _ _ _ _ (by decide)).trans h.c3, (at_oth _ _ _ _ _ (by decide)).trans h.c4, fun j => by simp [h.z j]⟩
theorem Rdr.line {W : World} {b me ma : Nat} {last : Int} {rest : List Tok} {d : Nat} (h : Rdr W b me ma last rest d) (l : Int) : Rdr (W.setCell ⟨b, 1, none⟩ (.int .i64 l)) b me ma l rest d := by
 obtain ⟨u, hu, hr⟩ := h.c0
 exact ⟨⟨u, (at_oth _ _ _ _ _ (by decide)).trans hu, hr.later (set_grown ..)⟩, at_sam _ h.c1, (at_oth _ _ _ _ _ (by decide)).trans h.c2, (at_oth _ _ _ _ _ (by decide)).trans h.c3, (at_oth _ _ _ _ _ (by decide)).trans h.c4, fun j => by simp [h.z j]⟩
theorem Rdr.deep {W : World} {b me ma : Nat} {last : Int} {rest : List Tok} {d : Nat} (h : Rdr W b me ma last rest d) (n : Nat) : Rdr (W.setCell ⟨b, 2, none⟩ (.int .i64 n)) b me ma last rest n := by
 obtain ⟨u, hu, hr⟩ := h.c0
 exact ⟨⟨u, (at_oth _ _ _ _ _ (by decide)).trans hu, hr.later (set_grown ..)⟩, (at_oth _ _ _ _ _ (by decide)).trans h.c1, at_sam _ h.c2, (at_oth _ _ _ _ _ (by decide)).trans h.c3, (at_oth _ _ _ _ _ (by decide)).trans h.c4, fun j => by simp [h.z j]⟩
theorem grown_new {w W : World} {b p i : Nat} (h : w.grownBy W (some b)) (hp : w.heap.size ≤ p) (v : Value) : w.grownBy (W.setCell ⟨p, i, none⟩ v) (some b) :=
 ⟨h.os, h.tape, h.output, Nt h.size (by simp [World.setCell]), fun k hk hne => (Below.heap_setCell _ _ _ _ (by simp only; omega)).trans (h.block k hk hne)⟩
theorem RestIn.over {W : World} {b p i : Nat} {v u : Value} {r : List Tok} (h : RestIn W b v r) (hp : b < p) : RestIn (W.setCell ⟨p, i, none⟩ u) b v r := by
 obtain ⟨a, c, e, h1, h2, h3⟩ := h
 refine ⟨a, c, e, h1, h2, ?_⟩
 rcases h3 with h3 | ⟨g, o, e2, hg, ht⟩
 ·exact Or.inl h3
 ·refine Or.inr ⟨g, o, e2, hg, fun j hj => ?_⟩
  obtain ⟨t0, t1, t2, t3, t4⟩ := ht j hj
  have hn : p ≠ g := by omega
  exact ⟨(at_far _ _ _ _ _ _ hn).trans t0, (at_far _ _ _ _ _ _ hn).trans t1, (at_far _ _ _ _ _ _ hn).trans t2, (at_far _ _ _ _ _ _ hn).trans t3, (at_far _ _ _ _ _ _ hn).trans t4⟩
theorem Rdr.over {W : World} {b me ma : Nat} {last : Int} {rest : List Tok} {d : Nat} (h : Rdr W b me ma last rest d) {p i : Nat} (hp : b < p) (u : Value) : Rdr (W.setCell ⟨p, i, none⟩ u) b me ma last rest d := by
 obtain ⟨v, hv, hr⟩ := h.c0
 have hn : p ≠ b := by omega
 exact ⟨⟨v, (at_far _ _ _ _ _ _ hn).trans hv, hr.over hp⟩, (at_far _ _ _ _ _ _ hn).trans h.c1, (at_far _ _ _ _ _ _ hn).trans h.c2, (at_far _ _ _ _ _ _ hn).trans h.c3, (at_far _ _ _ _ _ _ hn).trans h.c4, fun j => by simp [h.z j]⟩
def TookSaid (b me ma : Nat) (y : Tok) (rest : List Tok) (d : Nat) (w : World) (e : Ending) (w' : World) : Prop :=
 e = .returned (.agg #[.int .i64 y.1.k, .string (tx y.1.t), .bool y.1.f, .int .u64 y.1.x, .int .i64 y.2]) ∧ Rdr w' b me ma y.2 rest d ∧ w.grownBy w' (some b)
theorem take_any (b me ma : Nat) (last : Int) (y : Tok) (r : List Tok) (d : Nat) (w : World) (hR : Rdr w b me ma last (y :: r) d) : Calls Tryz.prog 92 #[.pointer (some ⟨b, 0, none⟩)] w (TookSaid b me ma y r d w) := by
 obtain ⟨⟨k, t, f, x⟩, ln⟩ := y
 have HBW := Hd (show b < w.heap.size from Bl hR.c1)
 have hx1 : Below w.heap.size w (w.alloc (.cells #[.int .i64 0, .string ⟨#[]⟩, .bool false, .int .u64 0, .int .i64 0] 41)) := Br.alloc Nr _
 have hR1 := hR.later hx1
 have HX1 := Hd (Ai hx1 hR1)
 clear hR hx1 hR1
 go_enter Tryz.func92, Tryz.ntmps92
 go_upto_region 1 with fail
 have hrb : w.heap.size < (w.alloc (.cells #[.int .i64 0, .string ⟨#[]⟩, .bool false, .int .u64 0, .int .i64 0] 41)).heap.size := by simp
 have d0 : (w.alloc (.cells #[.int .i64 0, .string ⟨#[]⟩, .bool false, .int .u64 0, .int .i64 0] 41)).cell? ⟨w.heap.size, 0, none⟩ = some (.int .i64 0) := by simp [go_sem]
 have d1 : (w.alloc (.cells #[.int .i64 0, .string ⟨#[]⟩, .bool false, .int .u64 0, .int .i64 0] 41)).cell? ⟨w.heap.size, 1, none⟩ = some (.string ⟨#[]⟩) := by simp [go_sem]
 have d2 : (w.alloc (.cells #[.int .i64 0, .string ⟨#[]⟩, .bool false, .int .u64 0, .int .i64 0] 41)).cell? ⟨w.heap.size, 2, none⟩ = some (.bool false) := by simp [go_sem]
 have d3 : (w.alloc (.cells #[.int .i64 0, .string ⟨#[]⟩, .bool false, .int .u64 0, .int .i64 0] 41)).cell? ⟨w.heap.size, 3, none⟩ = some (.int .u64 0) := by simp [go_sem]
 have d4 : (w.alloc (.cells #[.int .i64 0, .string ⟨#[]⟩, .bool false, .int .u64 0, .int .i64 0] 41)).cell? ⟨w.heap.size, 4, none⟩ = some (.int .i64 0) := by simp [go_sem]
 have rz : ∀ j, (w.alloc (.cells #[.int .i64 0, .string ⟨#[]⟩, .bool false, .int .u64 0, .int .i64 0] 41)).frozen? ⟨w.heap.size, j, none⟩ = false := fun j => by simp
 have HZ := Hd rz
 clear rz
 have HD := Hd (Ai hrb (Ai d0 (Ai d1 (Ai d2 (Ai d3 d4)))))
 clear d0 d1 d2 d3 d4 hrb
 generalize (w.alloc (.cells #[.int .i64 0, .string ⟨#[]⟩, .bool false, .int .u64 0, .int .i64 0] 41)) = W1 at *
 obtain ⟨v, hv, hri⟩ := HX1.out.2.c0
 obtain ⟨g, o, c, rfl, hg, hc, hm, htk, hrest⟩ := restIn_cons hri
 obtain ⟨p0, p1, p2, p3, p4⟩ := htk
 simp only at p0 p1 p2 p3 p4
 unfold maxLen at hm
 have hb1 : (0 : Int) < (r.length : Int) + 1 := by omega
 clear hri
 go_upto_region 2 with fail
 have hx2 : Below W1.heap.size W1 (W1.alloc (.cells #[.int .i64 k, .string (tx t), .bool f, .int .u64 x, .int .i64 ln] 41)) := Br.alloc Nr _
 have t0 : (W1.alloc (.cells #[.int .i64 k, .string (tx t), .bool f, .int .u64 x, .int .i64 ln] 41)).cell? ⟨W1.heap.size, 0, none⟩ = some (.int .i64 k) := by simp [go_sem]
 have t1 : (W1.alloc (.cells #[.int .i64 k, .string (tx t), .bool f, .int .u64 x, .int .i64 ln] 41)).cell? ⟨W1.heap.size, 1, none⟩ = some (.string (tx t)) := by simp [go_sem]
 have t2 : (W1.alloc (.cells #[.int .i64 k, .string (tx t), .bool f, .int .u64 x, .int .i64 ln] 41)).cell? ⟨W1.heap.size, 2, none⟩ = some (.bool f) := by simp [go_sem]
 have t3 : (W1.alloc (.cells #[.int .i64 k, .string (tx t), .bool f, .int .u64 x, .int .i64 ln] 41)).cell? ⟨W1.heap.size, 3, none⟩ = some (.int .u64 x) := by simp [go_sem]
 have t4 : (W1.alloc (.cells #[.int .i64 k, .string (tx t), .bool f, .int .u64 x, .int .i64 ln] 41)).cell? ⟨W1.heap.size, 4, none⟩ = some (.int .i64 ln) := by simp [go_sem]
 have hv2 := later' hx2 hv
 have hR2 := HX1.out.2.later hx2
 have hrest2 : ∀ (a' : Option Addr), c = r.length + 1 ∧ r = [] ∨ a' = some ⟨g, o + 5, none⟩ → RestIn (W1.alloc (.cells #[.int .i64 k, .string (tx t), .bool f, .int .u64 x, .int .i64 ln] 41)) b (.slice a' r.length (c - 1)) r := fun a' ha => (hrest a' ha).later (grown_of hx2)
 obtain ⟨hrb, d0, d1, d2, d3, d4⟩ := HD.out
 have HD2 := Hd (Ai (later' hx2 d0) (Ai (later' hx2 d1) (Ai (later' hx2 d2) (Ai (later' hx2 d3) (later' hx2 d4)))))
 have hbr : b ≠ w.heap.size := by
  intro e
  have h1 := HX1.out.2.c1
  rw [e] at h1
  rw [h1] at d1
  cases d1
 have hbt : b < W1.heap.size := Bl hv
 have hbb : b < w.heap.size := HBW.out
 have hz2 : ∀ j, (W1.alloc (.cells #[.int .i64 k, .string (tx t), .bool f, .int .u64 x, .int .i64 ln] 41)).frozen? ⟨w.heap.size, j, none⟩ = false := fun j => (World.frozen?_of_block (w := W1) (hx2.block _ (by simpa using hrb))).trans (HZ.out j)
 have HZ2 := Hd hz2
 clear hz2 HZ
 have HT := Hd (Ai t0 (Ai t1 (Ai t2 (Ai t3 t4))))
 have hbw : Below w.heap.size w (W1.alloc (.cells #[.int .i64 k, .string (tx t), .bool f, .int .u64 x, .int .i64 ln] 41)) := onB' HX1.out.1 hx2
 have HW := Hd (Ai hbw (Ai hrest2 hR2))
 clear d0 d1 d2 d3 d4 hrb hv hrest hx2 p0 p1 p2 p3 p4 HD HX1 hbw hrest2 hR2
 generalize (W1.alloc (.cells #[.int .i64 k, .string (tx t), .bool f, .int .u64 x, .int .i64 ln] 41)) = W2 at *
 have hbq : b ≠ W1.heap.size := by omega
 have hq1 : w.heap.size < W2.heap.size := Bl HD2.out.1
 generalize W1.heap.size = q at *
 generalize hrs : w.heap.size = rb at *
 have HRS := Hd hrs
 have l1 := HW.out.2.2.c1
 have z0 := HW.out.2.2.z 0
 have z1 := HW.out.2.2.z 1
 have e1 : IntKind.i64.wrap ((r.length : Int) + 1 - 1) = (r.length : Int) := by rw [IntKind.wrap_i64]; omega
 have hc1 : (1 : Int) ≤ (c : Int) := by omega
 have hc2 : (r.length : Int) + 1 ≤ (c : Int) := by omega
 have hc3 : (1 : Int) ≤ (r.length : Int) + 1 := by omega
 clear hrs t0 t1 t2 t3 t4
 obtain ⟨t0, t1, t2, t3, t4⟩ := HT.out
 by_cases g1 : c = 1
 ·subst g1
  have hr0 : r = [] := List.length_eq_zero_iff.1 (by omega)
  subst hr0
  have hrs : RestIn W2 b (.slice (some ⟨g, o, none⟩) 0 0) [] := HW.out.2.1 (some ⟨g, o, none⟩) (Or.inl ⟨rfl, rfl⟩)
  go_upto_region 4 with fail
  have hR4 := (HW.out.2.2.rest hrs).line ln
  have hg4 := Gt (set_grown W2 b 0 (.slice (some ⟨g, o, none⟩) 0 0)) (set_grown _ b 1 (.int .i64 ln))
  have s0 := HD2.out
  have q0 : ((W2.setCell ⟨b, 0, none⟩ (.slice (some ⟨g, o, none⟩) 0 0)).setCell ⟨b, 1, none⟩ (.int .i64 ln)).cell? ⟨rb, 0, none⟩ = some (.int .i64 0) := hg4.cell s0.1 (by simpa using Ne.symm hbr)
  have q1 : ((W2.setCell ⟨b, 0, none⟩ (.slice (some ⟨g, o, none⟩) 0 0)).setCell ⟨b, 1, none⟩ (.int .i64 ln)).cell? ⟨rb, 1, none⟩ = some (.string ⟨#[]⟩) := hg4.cell s0.2.1 (by simpa using Ne.symm hbr)
  have q2 : ((W2.setCell ⟨b, 0, none⟩ (.slice (some ⟨g, o, none⟩) 0 0)).setCell ⟨b, 1, none⟩ (.int .i64 ln)).cell? ⟨rb, 2, none⟩ = some (.bool false) := hg4.cell s0.2.2.1 (by simpa using Ne.symm hbr)
  have q3 : ((W2.setCell ⟨b, 0, none⟩ (.slice (some ⟨g, o, none⟩) 0 0)).setCell ⟨b, 1, none⟩ (.int .i64 ln)).cell? ⟨rb, 3, none⟩ = some (.int .u64 0) := hg4.cell s0.2.2.2.1 (by simpa using Ne.symm hbr)
  have q4 : ((W2.setCell ⟨b, 0, none⟩ (.slice (some ⟨g, o, none⟩) 0 0)).setCell ⟨b, 1, none⟩ (.int .i64 ln)).cell? ⟨rb, 4, none⟩ = some (.int .i64 0) := hg4.cell s0.2.2.2.2 (by simpa using Ne.symm hbr)
  have u0 : ((W2.setCell ⟨b, 0, none⟩ (.slice (some ⟨g, o, none⟩) 0 0)).setCell ⟨b, 1, none⟩ (.int .i64 ln)).cell? ⟨q, 0, none⟩ = some (.int .i64 k) := hg4.cell t0 (by simpa using Ne.symm hbq)
  have u1 : ((W2.setCell ⟨b, 0, none⟩ (.slice (some ⟨g, o, none⟩) 0 0)).setCell ⟨b, 1, none⟩ (.int .i64 ln)).cell? ⟨q, 1, none⟩ = some (.string (tx t)) := hg4.cell t1 (by simpa using Ne.symm hbq)
  have u2 : ((W2.setCell ⟨b, 0, none⟩ (.slice (some ⟨g, o, none⟩) 0 0)).setCell ⟨b, 1, none⟩ (.int .i64 ln)).cell? ⟨q, 2, none⟩ = some (.bool f) := hg4.cell t2 (by simpa using Ne.symm hbq)
  have u3 : ((W2.setCell ⟨b, 0, none⟩ (.slice (some ⟨g, o, none⟩) 0 0)).setCell ⟨b, 1, none⟩ (.int .i64 ln)).cell? ⟨q, 3, none⟩ = some (.int .u64 x) := hg4.cell t3 (by simpa using Ne.symm hbq)
  have u4 : ((W2.setCell ⟨b, 0, none⟩ (.slice (some ⟨g, o, none⟩) 0 0)).setCell ⟨b, 1, none⟩ (.int .i64 ln)).cell? ⟨q, 4, none⟩ = some (.int .i64 ln) := hg4.cell t4 (by simpa using Ne.symm hbq)
  have rz : ∀ j, ((W2.setCell ⟨b, 0, none⟩ (.slice (some ⟨g, o, none⟩) 0 0)).setCell ⟨b, 1, none⟩ (.int .i64 ln)).frozen? ⟨rb, j, none⟩ = false := fun j => by simp [HZ2.out j]
  have rz0 := rz 0
  have rz1 := rz 1
  have rz2 := rz 2
  have rz3 := rz 3
  have rz4 := rz 4
  clear rz
  have HF := Hd (Ai hR4 hg4)
  clear hR4 hg4 s0 t0 t1 t2 t3 t4 hv2 l1 z0 z1
  generalize ((W2.setCell ⟨b, 0, none⟩ (.slice (some ⟨g, o, none⟩) 0 0)).setCell ⟨b, 1, none⟩ (.int .i64 ln)) = W4 at *
  go_wp2_with fail
  obtain ⟨v0, v1, v2, v3, v4⟩ := set5 q0 q1 q2 q3 q4 (.int .i64 k) (.string (tx t)) (.bool f) (.int .u64 x) (.int .i64 ln)
  refine bodyPost_ret (v := .agg #[.int .i64 k, .string (tx t), .bool f, .int .u64 x, .int .i64 ln]) (by simp [results, Tryz.results92, go_sem, v0, v1, v2, v3, v4]) rfl ?_
  have hgw : w.grownBy W2 (some b) := grown_of (by rw [HRS.out]; exact HW.out.1)
  have hle : w.heap.size ≤ rb := by rw [HRS.out]; exact Nat.le_refl _
  exact ⟨rfl, ((((HF.out.1.over hbb _).over hbb _).over hbb _).over hbb _).over hbb _, grown_new (grown_new (grown_new (grown_new (grown_new (Gt hgw HF.out.2) hle _) hle _) hle _) hle _) hle _⟩
 ·have g2 : (c : Int) ≠ 1 := by omega
  have hrs : RestIn W2 b (.slice (some ⟨g, o + 5, none⟩) r.length (c - 1)) r := HW.out.2.1 (some ⟨g, o + 5, none⟩) (Or.inr rfl)
  go_upto_region 4 with fail
  have hR4 := (HW.out.2.2.rest hrs).line ln
  have hg4 := Gt (set_grown W2 b 0 (.slice (some ⟨g, o + 5, none⟩) r.length (c - 1))) (set_grown _ b 1 (.int .i64 ln))
  have s0 := HD2.out
  have q0 : ((W2.setCell ⟨b, 0, none⟩ (.slice (some ⟨g, o + 5, none⟩) r.length (c - 1))).setCell ⟨b, 1, none⟩ (.int .i64 ln)).cell? ⟨rb, 0, none⟩ = some (.int .i64 0) := hg4.cell s0.1 (by simpa using Ne.symm hbr)
  have q1 : ((W2.setCell ⟨b, 0, none⟩ (.slice (some ⟨g, o + 5, none⟩) r.length (c - 1))).setCell ⟨b, 1, none⟩ (.int .i64 ln)).cell? ⟨rb, 1, none⟩ = some (.string ⟨#[]⟩) := hg4.cell s0.2.1 (by simpa using Ne.symm hbr)
  have q2 : ((W2.setCell ⟨b, 0, none⟩ (.slice (some ⟨g, o + 5, none⟩) r.length (c - 1))).setCell ⟨b, 1, none⟩ (.int .i64 ln)).cell? ⟨rb, 2, none⟩ = some (.bool false) := hg4.cell s0.2.2.1 (by simpa using Ne.symm hbr)
  have q3 : ((W2.setCell ⟨b, 0, none⟩ (.slice (some ⟨g, o + 5, none⟩) r.length (c - 1))).setCell ⟨b, 1, none⟩ (.int .i64 ln)).cell? ⟨rb, 3, none⟩ = some (.int .u64 0) := hg4.cell s0.2.2.2.1 (by simpa using Ne.symm hbr)
  have q4 : ((W2.setCell ⟨b, 0, none⟩ (.slice (some ⟨g, o + 5, none⟩) r.length (c - 1))).setCell ⟨b, 1, none⟩ (.int .i64 ln)).cell? ⟨rb, 4, none⟩ = some (.int .i64 0) := hg4.cell s0.2.2.2.2 (by simpa using Ne.symm hbr)
  have u0 : ((W2.setCell ⟨b, 0, none⟩ (.slice (some ⟨g, o + 5, none⟩) r.length (c - 1))).setCell ⟨b, 1, none⟩ (.int .i64 ln)).cell? ⟨q, 0, none⟩ = some (.int .i64 k) := hg4.cell t0 (by simpa using Ne.symm hbq)
  have u1 : ((W2.setCell ⟨b, 0, none⟩ (.slice (some ⟨g, o + 5, none⟩) r.length (c - 1))).setCell ⟨b, 1, none⟩ (.int .i64 ln)).cell? ⟨q, 1, none⟩ = some (.string (tx t)) := hg4.cell t1 (by simpa using Ne.symm hbq)
  have u2 : ((W2.setCell ⟨b, 0, none⟩ (.slice (some ⟨g, o + 5, none⟩) r.length (c - 1))).setCell ⟨b, 1, none⟩ (.int .i64 ln)).cell? ⟨q, 2, none⟩ = some (.bool f) := hg4.cell t2 (by simpa using Ne.symm hbq)
  have u3 : ((W2.setCell ⟨b, 0, none⟩ (.slice (some ⟨g, o + 5, none⟩) r.length (c - 1))).setCell ⟨b, 1, none⟩ (.int .i64 ln)).cell? ⟨q, 3, none⟩ = some (.int .u64 x) := hg4.cell t3 (by simpa using Ne.symm hbq)
  have u4 : ((W2.setCell ⟨b, 0, none⟩ (.slice (some ⟨g, o + 5, none⟩) r.length (c - 1))).setCell ⟨b, 1, none⟩ (.int .i64 ln)).cell? ⟨q, 4, none⟩ = some (.int .i64 ln) := hg4.cell t4 (by simpa using Ne.symm hbq)
  have rz : ∀ j, ((W2.setCell ⟨b, 0, none⟩ (.slice (some ⟨g, o + 5, none⟩) r.length (c - 1))).setCell ⟨b, 1, none⟩ (.int .i64 ln)).frozen? ⟨rb, j, none⟩ = false := fun j => by simp [HZ2.out j]
  have rz0 := rz 0
  have rz1 := rz 1
  have rz2 := rz 2
  have rz3 := rz 3
  have rz4 := rz 4
  clear rz
  have HF := Hd (Ai hR4 hg4)
  clear hR4 hg4 s0 t0 t1 t2 t3 t4 hv2 l1 z0 z1
  generalize ((W2.setCell ⟨b, 0, none⟩ (.slice (some ⟨g, o + 5, none⟩) r.length (c - 1))).setCell ⟨b, 1, none⟩ (.int .i64 ln)) = W4 at *
  go_wp2_with fail
  obtain ⟨v0, v1, v2, v3, v4⟩ := set5 q0 q1 q2 q3 q4 (.int .i64 k) (.string (tx t)) (.bool f) (.int .u64 x) (.int .i64 ln)
  refine bodyPost_ret (v := .agg #[.int .i64 k, .string (tx t), .bool f, .int .u64 x, .int .i64 ln]) (by simp [results, Tryz.results92, go_sem, v0, v1, v2, v3, v4]) rfl ?_
  have hgw : w.grownBy W2 (some b) := grown_of (by rw [HRS.out]; exact HW.out.1)
  have hle : w.heap.size ≤ rb := by rw [HRS.out]; exact Nat.le_refl _
  exact ⟨rfl, ((((HF.out.1.over hbb _).over hbb _).over hbb _).over hbb _).over hbb _, grown_new (grown_new (grown_new (grown_new (grown_new (Gt hgw HF.out.2) hle _) hle _) hle _) hle _) hle _⟩
def Broken (er ln : Int) (e : Ending) : Prop := e = .panicked [{ v := .iface 59 (.agg #[.int .i64 er, .int .i64 ln]), recovered := false }]
def refE (er last : Int) : List Tok → Int × Int
 | [] => (17, last)
 | x :: _ => (er, x.2)
theorem refuseO_eq {α : Type} (er last : Int) (rest : List Tok) : (refuseO er last rest : Out α) = .bad (refE er last rest).1 (refE er last rest).2 := by
 cases rest <;> rfl
def BrokenSaid (p : Int × Int) (w : World) (e : Ending) (w' : World) : Prop := Broken p.1 p.2 e ∧ Below w.heap.size w w'
theorem tok_field (k : Int) (s : ByteArray) (f : Bool) (x l : Int) (W : World) :
  (Instr.field 41 (.agg #[.int .i64 k, .string s, .bool f, .int .u64 x, .int .i64 l]) 1).run Tryz.prog W = .ok (.string s) W ∧
  (Instr.field 41 (.agg #[.int .i64 k, .string s, .bool f, .int .u64 x, .int .i64 l]) 2).run Tryz.prog W = .ok (.agg #[.bool f, .int .u64 x]) W ∧
  (Instr.field 41 (.agg #[.int .i64 k, .string s, .bool f, .int .u64 x, .int .i64 l]) 3).run Tryz.prog W = .ok (.int .i64 l) W := by
 obtain ⟨fs, h, h1, h2, h3⟩ : ∃ fs, Tryz.prog.underlying 41 = some (.struct fs) ∧ (fs[1]?.map fun f => (f.type, f.offset)) = some (9, 1) ∧ (fs[2]?.map fun f => (f.type, f.offset)) = some (39, 2) ∧ (fs[3]?.map fun f => (f.type, f.offset)) = some (3, 4) := ⟨_, rfl, by kernel_rfl, by kernel_rfl, by kernel_rfl⟩
 obtain ⟨f1, e1, g1⟩ := Option.map_eq_some_iff.1 h1
 obtain ⟨f2, e2, g2⟩ := Option.map_eq_some_iff.1 h2
 obtain ⟨f3, e3, g3⟩ := Option.map_eq_some_iff.1 h3
 simp only [Prod.mk.injEq] at g1 g2 g3
 refine ⟨?_, ?_, ?_⟩
 ·simp [Instr.field, run_underlying h, e1, g1.1, g1.2, part, asAgg, Tryz.isAgg9, go_sem]
 ·simp [Instr.field, run_underlying h, e2, g2.1, g2.2, part, asAgg, Tryz.isAgg39, Tryz.sizeOf39, go_sem]
 ·simp [Instr.field, run_underlying h, e3, g3.1, g3.2, part, asAgg, Tryz.isAgg3, go_sem]
theorem tok_field1 (k : Int) (s : ByteArray) (f : Bool) (x l : Int) (W : World) : (Instr.field 41 (.agg #[.int .i64 k, .string s, .bool f, .int .u64 x, .int .i64 l]) 1).run Tryz.prog W = .ok (.string s) W := (tok_field k s f x l W).1
theorem tok_field2 (k : Int) (s : ByteArray) (f : Bool) (x l : Int) (W : World) : (Instr.field 41 (.agg #[.int .i64 k, .string s, .bool f, .int .u64 x, .int .i64 l]) 2).run Tryz.prog W = .ok (.agg #[.bool f, .int .u64 x]) W := (tok_field k s f x l W).2.1
theorem tok_field3 (k : Int) (s : ByteArray) (f : Bool) (x l : Int) (W : World) : (Instr.field 41 (.agg #[.int .i64 k, .string s, .bool f, .int .u64 x, .int .i64 l]) 3).run Tryz.prog W = .ok (.int .i64 l) W := (tok_field k s f x l W).2.2
theorem refuse_any (b me ma : Nat) (last : Int) (rest : List Tok) (d : Nat) (er : Int) (w : World) (hR : Rdr w b me ma last rest d) : Calls Tryz.prog 89 #[.pointer (some ⟨b, 0, none⟩), .int .i64 er] w (BrokenSaid (refE er last rest) w) := by
 obtain ⟨v, hv, a, c, rfl, hc, hm, hr⟩ := hR.c0
 have l1 := hR.c1
 cases rest with
 | nil =>
  clear hR hr
  go_enter Tryz.func89, Tryz.ntmps89
  go_wp2_with fail
  exact ⟨rfl, rfl, Below.refl _ _⟩
 | cons y r =>
  have HA := Hd (show Calls Tryz.prog 124 #[.pointer (some ⟨b, 0, none⟩)] w (TokSaid y w) from ahead_any b me ma last (y :: r) d w hR)
  simp only [List.length_cons] at hv hc
  have f0 : ((r.length : Int) + 1 == 0) = false := by simp; omega
  clear hR hr
  go_enter Tryz.func89, Tryz.ntmps89
  go_wp2_with fail
  refine HA.out.mono ?_
  rintro e w2 ⟨rfl, hb⟩
  have HB := Hd hb
  have hf3 := fun W => tok_field3 y.1.k (tx y.1.t) y.1.f y.1.x y.2 W
  clear hb HA
  go_wp2_with fail
  exact ⟨rfl, rfl, HB.out⟩
def OutSaid {α : Type} (b me ma d : Nat) (V : α → Ending → World → Prop) (o : Out α) (w : World) (e : Ending) (w' : World) : Prop :=
 match o with
 | .ok a l r => V a e w' ∧ Rdr w' b me ma l r d ∧ w.grownBy w' (some b)
 | .bad er ln => Broken er ln e ∧ w.grownBy w' (some b)
def TokV (y : Tok) (e : Ending) (_ : World) : Prop := e = .returned (.agg #[.int .i64 y.1.k, .string (tx y.1.t), .bool y.1.f, .int .u64 y.1.x, .int .i64 y.2])
theorem skip_any (b me ma : Nat) (last : Int) (rest : List Tok) (d : Nat) (s : Sh) (hs : s.1 ≠ 0) (w : World) (hR : Rdr w b me ma last rest d) : Calls Tryz.prog 59 #[.pointer (some ⟨b, 0, none⟩), .agg #[.int .i64 s.1, .string (tx s.2)]] w (fun e w' => (shapeL rest = s ∧ e = .returned (.bool true) ∧ ∃ y r, rest = y :: r ∧ Rdr w' b me ma y.2 r d ∧ w.grownBy w' (some b)) ∨ (shapeL rest ≠ s ∧ e = .returned (.bool false) ∧ Below w.heap.size w w')) := by
 have hx : Below w.heap.size w (w.alloc (.cells #[.int .i64 s.1, .string (tx s.2)] 105)) := Br.alloc Nr _
 have c0 : (w.alloc (.cells #[.int .i64 s.1, .string (tx s.2)] 105)).cell? ⟨w.heap.size, 0, none⟩ = some (.int .i64 s.1) := by simp [go_sem]
 have c1 : (w.alloc (.cells #[.int .i64 s.1, .string (tx s.2)] 105)).cell? ⟨w.heap.size, 1, none⟩ = some (.string (tx s.2)) := by simp [go_sem]
 have HX := Hd (Ai hx (hR.later hx))
 have HS0 := Hd hs
 clear hx hR hs
 go_enter Tryz.func59, Tryz.ntmps59
 go_upto_region 1 with fail
 generalize (w.alloc (.cells #[.int .i64 s.1, .string (tx s.2)] 105)) = W at *
 have HA := Hd (isAhead_any b me ma last rest d s W HX.out.2)
 go_wp2_with fail
 refine HA.out.mono ?_
 rintro e w2 ⟨rfl, hb⟩
 have H2 := Hd (Ai (onB' HX.out.1 hb) (HX.out.2.later hb))
 clear hb HA HX c0 c1
 by_cases g : shapeL rest = s
 ·rw [decide_eq_true g]
  have HG := Hd g
  cases rest with
  | nil =>
   exfalso
   apply HS0.out
   rw [← HG.out]
   rfl
  | cons y r =>
   have HT := Hd (take_any b me ma last y r d w2 H2.out.2)
   clear g
   go_wp2_with fail
   refine HT.out.mono ?_
   rintro e w3 ⟨rfl, hR3, hg3⟩
   have H3 := Hd (Ai hR3 (Gt (grown_of H2.out.1) hg3))
   clear hR3 hg3 HT
   go_wp2_with fail
   go_ret
   exact Or.inl ⟨HG.out, rfl, y, r, rfl, H3.out.1, H3.out.2⟩
 ·rw [decide_eq_false g]
  have HG := Hd g
  clear g
  go_wp2_with fail
  go_ret
  exact Or.inr ⟨HG.out, rfl, H2.out.1⟩
theorem take_of {rest : List Tok} {s : Sh} (h : shapeL rest = s) (hs : s.1 ≠ 0) : ∃ y r, rest = y :: r := by
 cases rest with
 | nil =>
  exfalso
  apply hs
  rw [← h]
  rfl
 | cons y r => exact ⟨y, r, rfl⟩
theorem Rdr.over5 {W : World} {b me ma : Nat} {last : Int} {rest : List Tok} {d : Nat} (h : Rdr W b me ma last rest d) {p : Nat} (hp : b < p) (v0 v1 v2 v3 v4 : Value) : Rdr (((((W.setCell ⟨p, 0, none⟩ v0).setCell ⟨p, 1, none⟩ v1).setCell ⟨p, 2, none⟩ v2).setCell ⟨p, 3, none⟩ v3).setCell ⟨p, 4, none⟩ v4) b me ma last rest d := ((((h.over hp _).over hp _).over hp _).over hp _).over hp _
theorem grown_new5 {w W : World} {b p : Nat} (h : w.grownBy W (some b)) (hp : w.heap.size ≤ p) (v0 v1 v2 v3 v4 : Value) : w.grownBy (((((W.setCell ⟨p, 0, none⟩ v0).setCell ⟨p, 1, none⟩ v1).setCell ⟨p, 2, none⟩ v2).setCell ⟨p, 3, none⟩ v3).setCell ⟨p, 4, none⟩ v4) (some b) := grown_new (grown_new (grown_new (grown_new (grown_new h hp _) hp _) hp _) hp _) hp _
theorem want_any (b me ma : Nat) (last : Int) (rest : List Tok) (d : Nat) (s : Sh) (hs : s.1 ≠ 0) (w : World) (hR : Rdr w b me ma last rest d) : Calls Tryz.prog 62 #[.pointer (some ⟨b, 0, none⟩), .agg #[.int .i64 s.1, .string (tx s.2)]] w (OutSaid b me ma d TokV (wantO s last rest) w) := by
 have HBW := Hd (show b < w.heap.size from Bl hR.c1)
 have hx : Below w.heap.size w (w.alloc (.cells #[.int .i64 s.1, .string (tx s.2)] 105)) := Br.alloc Nr _
 have hx2 : Below w.heap.size w ((w.alloc (.cells #[.int .i64 s.1, .string (tx s.2)] 105)).alloc (.cells #[.int .i64 0, .string ⟨#[]⟩, .bool false, .int .u64 0, .int .i64 0] 41)) := hx.alloc (by simp) _
 have c0 : ((w.alloc (.cells #[.int .i64 s.1, .string (tx s.2)] 105)).alloc (.cells #[.int .i64 0, .string ⟨#[]⟩, .bool false, .int .u64 0, .int .i64 0] 41)).cell? ⟨w.heap.size, 0, none⟩ = some (.int .i64 s.1) := by simp [go_sem]
 have c1 : ((w.alloc (.cells #[.int .i64 s.1, .string (tx s.2)] 105)).alloc (.cells #[.int .i64 0, .string ⟨#[]⟩, .bool false, .int .u64 0, .int .i64 0] 41)).cell? ⟨w.heap.size, 1, none⟩ = some (.string (tx s.2)) := by simp [go_sem]
 have d0 : ((w.alloc (.cells #[.int .i64 s.1, .string (tx s.2)] 105)).alloc (.cells #[.int .i64 0, .string ⟨#[]⟩, .bool false, .int .u64 0, .int .i64 0] 41)).cell? ⟨w.heap.size + 1, 0, none⟩ = some (.int .i64 0) := by simp [go_sem]
 have d1 : ((w.alloc (.cells #[.int .i64 s.1, .string (tx s.2)] 105)).alloc (.cells #[.int .i64 0, .string ⟨#[]⟩, .bool false, .int .u64 0, .int .i64 0] 41)).cell? ⟨w.heap.size + 1, 1, none⟩ = some (.string ⟨#[]⟩) := by simp [go_sem]
 have d2 : ((w.alloc (.cells #[.int .i64 s.1, .string (tx s.2)] 105)).alloc (.cells #[.int .i64 0, .string ⟨#[]⟩, .bool false, .int .u64 0, .int .i64 0] 41)).cell? ⟨w.heap.size + 1, 2, none⟩ = some (.bool false) := by simp [go_sem]
 have d3 : ((w.alloc (.cells #[.int .i64 s.1, .string (tx s.2)] 105)).alloc (.cells #[.int .i64 0, .string ⟨#[]⟩, .bool false, .int .u64 0, .int .i64 0] 41)).cell? ⟨w.heap.size + 1, 3, none⟩ = some (.int .u64 0) := by simp [go_sem]
 have d4 : ((w.alloc (.cells #[.int .i64 s.1, .string (tx s.2)] 105)).alloc (.cells #[.int .i64 0, .string ⟨#[]⟩, .bool false, .int .u64 0, .int .i64 0] 41)).cell? ⟨w.heap.size + 1, 4, none⟩ = some (.int .i64 0) := by simp [go_sem]
 have rz : ∀ j, ((w.alloc (.cells #[.int .i64 s.1, .string (tx s.2)] 105)).alloc (.cells #[.int .i64 0, .string ⟨#[]⟩, .bool false, .int .u64 0, .int .i64 0] 41)).frozen? ⟨w.heap.size + 1, j, none⟩ = false := fun j => by simp
 have HX := Hd (Ai hx2 (hR.later hx2))
 have HS0 := Hd hs
 have HD := Hd (Ai d0 (Ai d1 (Ai d2 (Ai d3 (Ai d4 rz)))))
 clear hx hx2 hR hs d0 d1 d2 d3 d4 rz
 go_enter Tryz.func62, Tryz.ntmps62
 go_upto_region 1 with fail
 generalize ((w.alloc (.cells #[.int .i64 s.1, .string (tx s.2)] 105)).alloc (.cells #[.int .i64 0, .string ⟨#[]⟩, .bool false, .int .u64 0, .int .i64 0] 41)) = W at *
 have HA := Hd (isAhead_any b me ma last rest d s W HX.out.2)
 go_wp2_with fail
 refine HA.out.mono ?_
 rintro e w2 ⟨rfl, hb⟩
 have rl : w.heap.size + 1 < W.heap.size := Bl HD.out.1
 have H2 := Hd (Ai (onB' HX.out.1 hb) (HX.out.2.later hb))
 have HD2 := Hd (Ai (later' hb HD.out.1) (Ai (later' hb HD.out.2.1) (Ai (later' hb HD.out.2.2.1) (Ai (later' hb HD.out.2.2.2.1) (Ai (later' hb HD.out.2.2.2.2.1) (fun j => (World.frozen?_of_block (w := W) (hb.block _ (by simpa using rl))).trans (HD.out.2.2.2.2.2 j)))))))
 clear hb HA HX c0 c1 HD
 by_cases g : shapeL rest = s
 ·rw [decide_eq_true g]
  obtain ⟨y, r, rfl⟩ := take_of g HS0.out
  have hw : wantO s last (y :: r) = .ok y y.2 r := by unfold wantO; rw [if_pos g]; rfl
  have HW := Hd hw
  have HT := Hd (take_any b me ma last y r d w2 H2.out.2)
  clear g hw
  go_wp2_with fail
  refine HT.out.mono ?_
  rintro e w3 ⟨rfl, hR3, hg3⟩
  have hn : w.heap.size + 1 ≠ b := by have := HBW.out; omega
  obtain ⟨d0, d1, d2, d3, d4, dz⟩ := HD2.out
  have hn' : some (w.heap.size + 1) ≠ some b := by simpa using hn
  have rl2 : w.heap.size + 1 < w2.heap.size := Bl d0
  replace d0 := hg3.cell d0 hn'
  replace d1 := hg3.cell d1 hn'
  replace d2 := hg3.cell d2 hn'
  replace d3 := hg3.cell d3 hn'
  replace d4 := hg3.cell d4 hn'
  have z : ∀ j, w3.frozen? ⟨w.heap.size + 1, j, none⟩ = false := fun j => (World.frozen?_of_block (w := w2) (hg3.block _ rl2 hn')).trans (dz j)
  have z0 := z 0
  have z1 := z 1
  have z2 := z 2
  have z3 := z 3
  have z4 := z 4
  have H3 := Hd (Ai hR3 (Gt (grown_of H2.out.1) hg3))
  clear hR3 hg3 HT z dz HD2 rl2
  go_wp2_with fail
  obtain ⟨v0, v1, v2, v3, v4⟩ := set5 d0 d1 d2 d3 d4 (.int .i64 y.1.k) (.string (tx y.1.t)) (.bool y.1.f) (.int .u64 y.1.x) (.int .i64 y.2)
  refine bodyPost_ret (v := .agg #[.int .i64 y.1.k, .string (tx y.1.t), .bool y.1.f, .int .u64 y.1.x, .int .i64 y.2]) (by simp [results, Tryz.results62, go_sem, v0, v1, v2, v3, v4]) rfl ?_
  rw [HW.out]
  exact ⟨rfl, H3.out.1.over5 (by have := HBW.out; omega) _ _ _ _ _, grown_new5 H3.out.2 (by omega) _ _ _ _ _⟩
 ·rw [decide_eq_false g]
  have hw : wantO s last rest = .bad (refE 3 last rest).1 (refE 3 last rest).2 := by unfold wantO; rw [if_neg g, refuseO_eq]
  have HW := Hd hw
  have HT := Hd (refuse_any b me ma last rest d 3 w2 H2.out.2)
  clear g hw
  go_wp2_with fail
  refine HT.out.mono ?_
  rintro e w3 ⟨hbr, hb3⟩
  have H3 := Hd (Ai hbr (Gt (b := b) (grown_of H2.out.1) (grown_of hb3)))
  unfold Broken at hbr
  subst hbr
  clear hb3 HT HD2
  go_wp2_with fail
  refine ⟨rfl, ?_⟩
  rw [HW.out]
  exact ⟨rfl, H3.out.2⟩
theorem own_kept {w w' : World} {base : Nat} {e : TypeId} {size : Nat} {v : Value} {n : Nat} {xs : List Value} (h : w.ownsRow base e size v n xs) {b : Nat} (hb : w.grownBy w' (some b)) (hn : v.ownBlock ≠ some b) : w'.ownsRow base e size v n xs := by
 obtain ⟨h0, h | ⟨g, cap, cur, rfl, h2, h3, h4⟩⟩ := h
 ·exact ⟨h0, Or.inl h⟩
 ·refine ⟨h0, Or.inr ⟨g, cap, cur, rfl, h2, ?_, h4⟩⟩
  have hg : g < w.heap.size := by
   rcases Nat.lt_or_ge g w.heap.size with h | h
   ·exact h
   ·rw [Array.getElem?_eq_none h] at h3; cases h3
  rw [hb.block g hg (fun e => hn (by rw [← e]; rfl))]
  exact h3
theorem RestIn.past {w w' : World} {b q : Nat} {v : Value} {rest : List Tok} (h : RestIn w b v rest) (hb : w.grownBy w' (some q)) (hq : b < q) : RestIn w' b v rest := by
 obtain ⟨a, c, e, h1, h2, h3⟩ := h
 refine ⟨a, c, e, h1, h2, ?_⟩
 rcases h3 with h3 | ⟨g, o, e2, hg, ht⟩
 ·exact Or.inl h3
 ·exact Or.inr ⟨g, o, e2, hg, fun i hi => (ht i hi).later (by omega) hb⟩
theorem Rdr.past {w w' : World} {b me ma q : Nat} {last : Int} {rest : List Tok} {d : Nat} (h : Rdr w b me ma last rest d) (hb : w.grownBy w' (some q)) (hq : b < q) : Rdr w' b me ma last rest d := by
 obtain ⟨v, hv, hr⟩ := h.c0
 have lt := Bl hv
 have hn : ∀ {j}, some (⟨b, j, none⟩ : Addr).block ≠ some q := by intro j e; simp at e; omega
 exact ⟨⟨v, hb.cell hv hn, hr.past hb hq⟩, hb.cell h.c1 hn, hb.cell h.c2 hn, hb.cell h.c3 hn, hb.cell h.c4 hn, fun j => (World.frozen?_of_block (w := w) (hb.block _ (by simpa using lt) (by simp; omega))).trans (h.z j)⟩
theorem grown_some {w w' : World} {o : Option Nat} {b : Nat} (hb : w.grownBy w' o) (ho : ∀ g, o = some g → b < g) : ∃ q, b < q ∧ w.grownBy w' (some q) := by
 cases o with
 | some q => exact ⟨q, ho q rfl, hb⟩
 | none => exact ⟨b + 1, by omega, hb.os, hb.tape, hb.output, hb.size, fun k hk _ => hb.block k hk (by simp)⟩
theorem grown_past {w w' w'' : World} {o : Option Nat} {b : Nat} (h : w.grownBy w' (some b)) (h2 : w'.grownBy w'' o) (ho : ∀ g, o = some g → w.heap.size ≤ g) : w.grownBy w'' (some b) :=
 ⟨h2.os.trans h.os, h2.tape.trans h.tape, h2.output.trans h.output, Nt h.size h2.size, fun k hk hne => (h2.block k (Nat.lt_of_lt_of_le hk h.size) (fun e => by have := ho k e.symm; omega)).trans (h.block k hk hne)⟩
def lenOf : Value → Nat
 | .slice _ n _ => n
 | _ => 0
theorem Tryz.info_text : (Tryz.prog.info? 9).map (fun i => (i.zero, i.size, i.bytes)) = some (some (.string ⟨#[]⟩), 1, 16) := by kernel_rfl
theorem own_shape {w : World} {base : Nat} {e : TypeId} {size : Nat} {v : Value} {n : Nat} {xs : List Value} (h : w.ownsRow base e size v n xs) : ∃ a c, v = .slice a n c ∧ ∀ g, v.ownBlock = some g → base ≤ g := by
 obtain ⟨h0, ⟨rfl, rfl⟩ | ⟨g, cap, cur, rfl, h2, h3⟩⟩ := h
 ·exact ⟨_, _, rfl, fun g hg => by cases hg⟩
 ·exact ⟨_, _, rfl, fun g' hg => by cases hg; exact h2⟩
def NamesSaid (b me ma d : Nat) (o : List Nm × Int × List Tok) (w : World) (e : Ending) (w' : World) : Prop :=
 ∃ v, e = .returned v ∧ Rdr w' b me ma o.2.1 o.2.2 d ∧ w.grownBy w' (some b) ∧ w'.ownsRow w.heap.size 9 1 v o.1.length (o.1.map fun x => .string (tx x))
theorem names_any (b me ma : Nat) (last : Int) (rest : List Tok) (d : Nat) (hL : rest.length ≤ 4096) (w : World) (hE : Env8 w b) (hR : Rdr w b me ma last rest d) : Calls Tryz.prog 90 #[.pointer (some ⟨b, 0, none⟩)] w (NamesSaid b me ma d (namesO last rest []) w) := by
 have hbw : b < w.heap.size := Bl hR.c1
 have HE := Hd (Ai hE (Ai hR hL))
 obtain ⟨i0, hi0, hz0, hzs, hzb⟩ := info_parts Tryz.info_text
 clear hE hR hL
 go_enter Tryz.func90, Tryz.ntmps90
 go_wp2_with fail
 go_loopw [3] (fun s3 wr => ∃ (l : Int) (r : List Tok) (acc : List Nm) (vv : Value), vv = s3 ∧ Rdr wr b me ma l r d ∧ w.grownBy wr (some b) ∧ namesO l r acc = namesO last rest [] ∧ acc.length + r.length = rest.length ∧ wr.ownsRow w.heap.size 9 1 vv acc.length (acc.map fun x => .string (tx x))) (fun s3 _ => rest.length - lenOf s3)
 case atStart => exact ⟨last, rest, [], _, rfl, HE.out.2.1, grown_of Br, rfl, by simp, World.ownsRow_nil _ _ _ _⟩
 case round =>
  obtain ⟨l, r, acc, vv, rfl, hR, hg, hN, hn, hown⟩ := hrel
  obtain ⟨aa, cc, rfl, hlow⟩ := own_shape hown
  have hs := ((HE.out.1).later hg).name.1
  have c0 := hs.1
  have c1 := hs.2
  have HA := Hd (isAhead_any b me ma l r d sName wr hR)
  have HQ := Hd (Ai hR (Ai hg (Ai hN (Ai hn (Ai hown hlow)))))
  clear hR hg hN hn hown hlow hs
  go_wp2_with fail
  refine HA.out.mono ?_
  rintro e w2 ⟨rfl, hb⟩
  have H2 := Hd (Ai (HQ.out.1.later hb) (Gt HQ.out.2.1 (grown_of hb)))
  have HO2 := Hd (own_kept HQ.out.2.2.2.2.1 (grown_of (b := b) hb) (fun e => by have := HQ.out.2.2.2.2.2 b e; omega))
  have HN := Hd (Ai HQ.out.2.2.1 HQ.out.2.2.2.1)
  have HF := Hd HQ.out.2.2.2.2.2
  clear hb HA c0 c1 HQ
  by_cases g : shapeL r = sName
  ·rw [decide_eq_true g]
   obtain ⟨y, r, rfl⟩ := take_of g (by decide)
   have hN' : namesO y.2 r (acc ++ [y.1.t]) = namesO last rest [] := by
    rw [← HN.out.1]
    conv => rhs; unfold namesO
    exact (if_pos g).symm
   have hn : acc.length + r.length + 1 = rest.length := by have := HN.out.2; simp only [List.length_cons] at this; omega
   have hL := HE.out.2.2
   have HT := Hd (take_any b me ma l y r d w2 H2.out.1)
   have HN' := Hd hN'
   clear g hN' HN
   go_wp2_with fail
   refine HT.out.mono ?_
   rintro e w3 ⟨rfl, hR3, hg3⟩
   have H3 := Hd (Ai hR3 (Gt H2.out.2 hg3))
   have HO3 := Hd (own_kept HO2.out hg3 (fun e => by have := HF.out b e; omega))
   have hwz : w.heap.size ≤ w3.heap.size := H3.out.2.size
   have hf1 := fun W => tok_field1 y.1.k (tx y.1.t) y.1.f y.1.x y.2 W
   have one1 : ∀ u ∈ [Value.string (tx y.1.t)], u.oneCell' = true := by intro u hu; simp at hu; rw [hu]; rfl
   have m9 : acc.length + 1 ≤ maxLen := by unfold maxLen; omega
   have m8 : (acc.length + 1) * 16 ≤ 140737488355328 := by omega
   clear hR3 hg3 HT HO2 H2
   go_wp2_with (at_builtin; refine wpList_append_lies _ rfl _ _ 45 rfl w.heap.size 9 i0 (.string ⟨#[]⟩) 1 16 Tryz.underlying45 hi0 hz0 hzs hzb rfl (by decide) (.slice aa acc.length cc) acc.length (acc.map fun x => .string (tx x)) rfl (HO3.out.alloc _) ⟨w3.heap.size, 0, none⟩ 1 1 [.string (tx y.1.t)] rfl rfl (World.news_of_block (heap_alloc_new _ _)) one1 (by decide) m9 m8 (by simp; omega) _ rfl ?_; intro g9 cap9 w9 o1 o2 o3 o4)
   have hxx := (Below.refl w3.heap.size w3).alloc Nr (.cells #[.string (tx y.1.t)] 9)
   obtain ⟨q, hq, hg9⟩ := grown_some (b := b) o2 (fun g e => by have := HF.out g e; omega)
   refine ⟨⟨y.2, r, acc ++ [y.1.t], _, rfl, (H3.out.1.later hxx).past hg9 hq, grown_past (Gt H3.out.2 (grown_of hxx)) o2 HF.out, HN'.out, by simp; omega, ?_⟩, by simp [lenOf]; omega⟩
   simpa using o1
  ·rw [decide_eq_false g]
   have hN' : (acc, l, r) = namesO last rest [] := by
    rw [← HN.out.1]
    cases r with
    | nil => rfl
    | cons y r =>
     unfold namesO
     exact (if_neg g).symm
   have HN' := Hd hN'
   clear g hN' HN
   go_wp2_with fail
   refine bodyPost_ret (v := .slice aa acc.length cc) (by simp [results, Tryz.results90, go_sem]) rfl ?_
   rw [← HN'.out]
   exact ⟨_, rfl, H2.out.1, H2.out.2, HO2.out⟩
theorem check_shape (em : Bool) (n : Nat) (a : Sh) (w : World) : (Instr.checkKey em (n + 2) 105 (.agg #[.int .i64 a.1, .string (tx a.2)])).run Tryz.prog w = .ok () w := by
 have hf : Tryz.prog.underlying 105 = some (.struct #[⟨"kind", 3, 0, false, "", "treadwheel/parse", 0⟩, ⟨"text", 9, 1, false, "", "treadwheel/parse", 8⟩]) := by kernel_rfl
 have q1 : ∀ (x : Int) (w : World), (Instr.checkKey em (n + 1) 3 (.int .i64 x)).run Tryz.prog w = .ok () w := fun x w => by simp [Instr.checkKey, run_underlying Tryz.underlying3]
 have q2 : ∀ (x : ByteArray) (w : World), (Instr.checkKey em (n + 1) 9 (.string x)).run Tryz.prog w = .ok () w := fun x w => by simp [Instr.checkKey, run_underlying Tryz.underlying9]
 have p0 : ∀ (x : Int) (s : ByteArray) (w : World), (part 3 #[.int .i64 x, .string s] 0).run Tryz.prog w = .ok (.int .i64 x) w := by intro x s w; simp [part, Tryz.isAgg3, go_sem]
 have p1 : ∀ (x : Int) (s : ByteArray) (w : World), (part 9 #[.int .i64 x, .string s] 1).run Tryz.prog w = .ok (.string s) w := by intro x s w; simp [part, Tryz.isAgg9, go_sem]
 rw [Instr.checkKey]
 generalize hE : Instr.checkKey em (n + 1) 3 = E at *
 generalize hF : Instr.checkKey em (n + 1) 9 = F at *
 simp [run_underlying hf, p0, p1, q1, q2, hE, hF]
def entries (es : List (Sh × Value)) : List MapEntry := es.zipIdx.map fun p => ⟨.agg #[.int .i64 p.1.1.1, .string (tx p.1.1.2)], p.1.2, p.2⟩
def lookSh (es : List (Sh × Value)) (s : Sh) : Option Value := (es.find? fun p => decide (p.1 = s)).map (·.2)
theorem find_shape (s : Sh) (w : World) : ∀ (es : List (Sh × Value)) (k i : Nat), ∃ r, (Instr.findAsking 105 (.agg #[.int .i64 s.1, .string (tx s.2)]) ((es.zipIdx k).map fun p => ⟨.agg #[.int .i64 p.1.1.1, .string (tx p.1.1.2)], p.1.2, p.2⟩) i).run Tryz.prog w = .ok r w ∧ r.map (·.2) = lookSh es s
 | [], k, i => ⟨none, by simp [Instr.findAsking], rfl⟩
 | e :: es, k, i => by
  have he : (Op.equal 105 (.agg #[.int .i64 s.1, .string (tx s.2)]) (.agg #[.int .i64 e.1.1, .string (tx e.1.2)])).run Tryz.prog w = .ok (decide (s = e.1)) w := eq_shape 9997 s e.1 w
  obtain ⟨r, hr, hl⟩ := find_shape s w es (k + 1) (i + 1)
  generalize hq : Op.equal = E at he
  by_cases g : s = e.1
  ·refine ⟨some (i, e.2), ?_, ?_⟩
   ·rw [decide_eq_true g] at he
    simp [Instr.findAsking, hq, he]
   ·simp [lookSh, g]
  ·refine ⟨r, ?_, ?_⟩
   ·rw [decide_eq_false g] at he
    simpa [Instr.findAsking, hq, he] using hr
   ·have g' : ¬ e.1 = s := fun e => g e.symm
    simp [lookSh, g'] at hl ⊢
    exact hl
def KF (w : World) (m : Nat) (es : List (Sh × Value)) : Prop := ∃ es' c, w.heap[m]? = some (.map (entries es').toArray c) ∧ ∀ s, lookSh es' s = lookSh es s
theorem KF.later {w w' : World} {m b : Nat} {es : List (Sh × Value)} (h : KF w m es) (hb : w.grownBy w' (some b)) (hm : m ≠ b) : KF w' m es := by
 obtain ⟨es', c, h, hl⟩ := h
 have lt : m < w.heap.size := by
  rcases Nat.lt_or_ge m w.heap.size with h' | h'
  ·exact h'
  ·rw [Array.getElem?_eq_none h'] at h; cases h
 exact ⟨es', c, (hb.block m lt (by simpa using hm)).trans h, hl⟩
theorem KF.below {w w' : World} {m : Nat} {es : List (Sh × Value)} (h : KF w m es) (hb : Below w.heap.size w w') : KF w' m es := h.later (b := m + 1) (grown_of hb) (by omega)
theorem findKey_shape (s : Sh) (es : List (Sh × Value)) (w : World) : ∃ r, (Instr.findKey 105 (.agg #[.int .i64 s.1, .string (tx s.2)]) (entries es)).run Tryz.prog w = .ok r w ∧ r.map (·.2) = lookSh es s := by
 have hf : Tryz.prog.underlying 105 = some (.struct (Tryz.prog.fieldsOf 105)) := by kernel_rfl
 obtain ⟨r, h1, h2⟩ := find_shape s w es 0 0
 cases es with
 | nil => exact ⟨none, by simp [Instr.findKey, entries, run_underlying hf, Instr.findNow], rfl⟩
 | cons e es =>
  refine ⟨r, ?_, h2⟩
  have hn : Instr.findNow (.struct (Tryz.prog.fieldsOf 105)) (.agg #[.int .i64 s.1, .string (tx s.2)]) (entries (e :: es)) 0 = none := by simp [entries, Instr.findNow, Instr.sameNow]
  unfold entries at hn ⊢
  generalize hL : (List.map (fun p : (Sh × Value) × Nat => (⟨.agg #[.int .i64 p.1.1.1, .string (tx p.1.1.2)], p.1.2, p.2⟩ : MapEntry)) (e :: es).zipIdx) = L at *
  simp [Instr.findKey, run_underlying hf, hn, h1]
theorem KF.look {w : World} {m : Nat} {es : List (Sh × Value)} (h : KF w m es) (s : Sh) (ok : Bool) : (Instr.lookup 101 (.map (some m)) (.agg #[.int .i64 s.1, .string (tx s.2)]) ok).run Tryz.prog w = .ok (if ok then .tuple #[(lookSh es s).getD .nilFunc, .bool (lookSh es s).isSome] else (lookSh es s).getD .nilFunc) w := by
 obtain ⟨es', c, h, hl⟩ := h
 rw [← hl s]
 clear hl
 obtain ⟨r, h1, h2⟩ := findKey_shape s es' w
 have hk : Tryz.prog.underlying 101 = some (.map 105 106) := by kernel_rfl
 have hz : ∀ w, (zeroValue 106).run Tryz.prog w = .ok .nilFunc w := fun w => rfl
 have hc := check_shape (entries es').isEmpty 9998 s w
 rw [← h2]
 unfold Instr.lookup
 have hc' : (Instr.checkKey (entries es').isEmpty 10000 105 (.agg #[.int .i64 s.1, .string (tx s.2)])).run Tryz.prog w = .ok () w := hc
 clear hc
 generalize hE : Instr.checkKey (entries es').isEmpty 10000 = E at *
 cases r with
 | none => cases ok <;> simp [run_underlying hk, hE, hc', h1, (by simp [getObj, Sem.run, h] : (getObj m).run Tryz.prog w = .ok (.map (entries es').toArray c) w), hz]
 | some r => cases ok <;> simp [run_underlying hk, hE, hc', h1, (by simp [getObj, Sem.run, h] : (getObj m).run Tryz.prog w = .ok (.map (entries es').toArray c) w)]
def FormSaid (p : Int × Int) (es : List (Sh × Value)) (s : Sh) (w : World) (e : Ending) (w' : World) : Prop :=
 (∃ v, lookSh es s = some v ∧ e = .returned v ∧ Below w.heap.size w w') ∨ (lookSh es s = none ∧ Broken p.1 p.2 e ∧ Below w.heap.size w w')
theorem form_any (b me ma : Nat) (last : Int) (rest : List Tok) (d : Nat) (mm : Nat) (es : List (Sh × Value)) (w : World) (hR : Rdr w b me ma last rest d) (hM : KF w mm es) : Calls Tryz.prog 122 #[.pointer (some ⟨b, 0, none⟩), .map (some mm)] w (FormSaid (refE 3 last rest) es (shapeL rest) w) := by
 have HR := Hd (Ai hR hM)
 have HA := Hd (ahead_any b me ma last rest d w hR)
 generalize hy : tokO rest = y at HA
 go_enter Tryz.func122, Tryz.ntmps122
 go_wp2_with fail
 refine HA.out.mono ?_
 rintro e w2 ⟨rfl, hb⟩
 have HS := Hd (fun W => shapeOf_any y W)
 go_wp2_with fail
 refine (HS.out _).mono ?_
 rintro e w3 ⟨rfl, hb3⟩
 have hb4 := onB' hb hb3
 have hlk := (HR.out.2.below hb4).look (shapeT y.1) true
 have H4 := Hd hb4
 have hsy : shapeT y.1 = shapeL rest := by rw [← hy]; exact shapeL_tok rest
 rw [hsy] at hlk ⊢
 clear hb hb3 hb4 HA HS
 cases hl : lookSh es (shapeL rest) with
 | some v =>
  rw [hl] at hlk
  simp only [if_true, Option.getD_some, Option.isSome_some] at hlk
  have HL := Hd hl
  clear hl
  go_wp2_with fail
  refine bodyPost_ret (v := v) (by simp [results, Tryz.results122, go_sem]) rfl ?_
  exact Or.inl ⟨v, HL.out, rfl, H4.out⟩
 | none =>
  rw [hl] at hlk
  simp only [if_true, Option.getD_none, Option.isSome_none] at hlk
  have HL := Hd hl
  clear hl
  have HF := Hd (refuse_any b me ma last rest d 3 w3 (HR.out.1.later H4.out))
  go_wp2_with fail
  refine HF.out.mono ?_
  rintro e w5 ⟨hbr, hb5⟩
  have H5 := Hd (Ai hbr (onB' H4.out hb5))
  unfold Broken at hbr
  subst hbr
  clear hb5 HF
  go_wp2_with fail
  exact ⟨rfl, Or.inr ⟨HL.out, rfl, H5.out.2⟩⟩
end Go.Proofs.YtbnmmbjajheedaaGreatDoor
