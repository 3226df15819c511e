import Derived.Test.YtbnmmbjajheedaaGreatDoorMg4
/- The reader refuses: a panic; what must stand there. -/
namespace Go.Proofs.YtbnmmbjajheedaaGreatDoor
open Go.RowKit Go.Lib

/-- Reading is broken off, by this fault. -/
def Broken (er ln : Int) (e : Ending) : Prop := e = .panicked [{ v := .iface 59 (.agg #[.int .i64 er, .int .i64 ln]), recovered := false }]
def refE (er last : Int) : List Tok → Int × Int
  | [] => (17, last)
  | x :: _ => (er, x.2)
theorem refuseO_eq {α : Type} (er last : Int) (rest : List Tok) : (refuseO er last rest : Out α) = .bad (refE er last rest).1 (refE er last rest).2 := by
  cases rest <;> rfl
def BrokenSaid (p : Int × Int) (w : World) (e : Ending) (w' : World) : Prop := Broken p.1 p.2 e ∧ Below w.heap.size w w'

set_option maxRecDepth 100000 in
theorem tok_field (k : Int) (s : ByteArray) (f : Bool) (x l : Int) (W : World) :
    (Instr.field 41 (.agg #[.int .i64 k, .string s, .bool f, .int .u64 x, .int .i64 l]) 1).run Tryz.prog W = .ok (.string s) W ∧
    (Instr.field 41 (.agg #[.int .i64 k, .string s, .bool f, .int .u64 x, .int .i64 l]) 2).run Tryz.prog W = .ok (.agg #[.bool f, .int .u64 x]) W ∧
    (Instr.field 41 (.agg #[.int .i64 k, .string s, .bool f, .int .u64 x, .int .i64 l]) 3).run Tryz.prog W = .ok (.int .i64 l) W := by
  obtain ⟨fs, h, h1, h2, h3⟩ : ∃ fs, Tryz.prog.underlying 41 = some (.struct fs) ∧ (fs[1]?.map fun f => (f.type, f.offset)) = some (9, 1) ∧ (fs[2]?.map fun f => (f.type, f.offset)) = some (39, 2) ∧ (fs[3]?.map fun f => (f.type, f.offset)) = some (3, 4) := ⟨_, rfl, by kernel_rfl, by kernel_rfl, by kernel_rfl⟩
  obtain ⟨f1, e1, g1⟩ := Option.map_eq_some_iff.1 h1
  obtain ⟨f2, e2, g2⟩ := Option.map_eq_some_iff.1 h2
  obtain ⟨f3, e3, g3⟩ := Option.map_eq_some_iff.1 h3
  simp only [Prod.mk.injEq] at g1 g2 g3
  refine ⟨?_, ?_, ?_⟩
  · simp [Instr.field, run_underlying h, e1, g1.1, g1.2, part, asAgg, Tryz.isAgg9, go_sem]
  · simp [Instr.field, run_underlying h, e2, g2.1, g2.2, part, asAgg, Tryz.isAgg39, Tryz.sizeOf39, go_sem]
  · simp [Instr.field, run_underlying h, e3, g3.1, g3.2, part, asAgg, Tryz.isAgg3, go_sem]
theorem tok_field1 (k : Int) (s : ByteArray) (f : Bool) (x l : Int) (W : World) : (Instr.field 41 (.agg #[.int .i64 k, .string s, .bool f, .int .u64 x, .int .i64 l]) 1).run Tryz.prog W = .ok (.string s) W := (tok_field k s f x l W).1
theorem tok_field2 (k : Int) (s : ByteArray) (f : Bool) (x l : Int) (W : World) : (Instr.field 41 (.agg #[.int .i64 k, .string s, .bool f, .int .u64 x, .int .i64 l]) 2).run Tryz.prog W = .ok (.agg #[.bool f, .int .u64 x]) W := (tok_field k s f x l W).2.1
theorem tok_field3 (k : Int) (s : ByteArray) (f : Bool) (x l : Int) (W : World) : (Instr.field 41 (.agg #[.int .i64 k, .string s, .bool f, .int .u64 x, .int .i64 l]) 3).run Tryz.prog W = .ok (.int .i64 l) W := (tok_field k s f x l W).2.2
set_option maxHeartbeats 4000000 in
set_option maxRecDepth 100000 in
theorem refuse_any (b me ma : Nat) (last : Int) (rest : List Tok) (d : Nat) (er : Int) (w : World) (hR : Rdr w b me ma last rest d) : Calls Tryz.prog 89 #[.pointer (some ⟨b, 0, none⟩), .int .i64 er] w (BrokenSaid (refE er last rest) w) := by
  obtain ⟨v, hv, a, c, rfl, hc, hm, hr⟩ := hR.c0
  have l1 := hR.c1
  cases rest with
  | nil =>
    clear hR hr
    go_enter Tryz.func89, Tryz.ntmps89
    go_wp2_with fail
    exact ⟨rfl, rfl, Below.refl _ _⟩
  | cons y r =>
    have HA := Lib.hid (show Calls Tryz.prog 124 #[.pointer (some ⟨b, 0, none⟩)] w (TokSaid y w) from ahead_any b me ma last (y :: r) d w hR)
    simp only [List.length_cons] at hv hc
    have f0 : ((r.length : Int) + 1 == 0) = false := by simp; omega
    clear hR hr
    go_enter Tryz.func89, Tryz.ntmps89
    go_wp2_with fail
    refine HA.out.mono ?_
    rintro e w2 ⟨rfl, hb⟩
    have HB := Lib.hid hb
    have hf3 := fun W => tok_field3 y.1.k (tx y.1.t) y.1.f y.1.x y.2 W
    clear hb HA
    go_wp2_with fail
    exact ⟨rfl, rfl, HB.out⟩

/-- What a call of the reader's comes to. -/
def OutSaid {α : Type} (b me ma d : Nat) (V : α → Ending → World → Prop) (o : Out α) (w : World) (e : Ending) (w' : World) : Prop :=
  match o with
  | .ok a l r => V a e w' ∧ Rdr w' b me ma l r d ∧ w.grownBy w' (some b)
  | .bad er ln => Broken er ln e ∧ w.grownBy w' (some b)
def TokV (y : Tok) (e : Ending) (_ : World) : Prop := e = .returned (.agg #[.int .i64 y.1.k, .string (tx y.1.t), .bool y.1.f, .int .u64 y.1.x, .int .i64 y.2])

set_option maxHeartbeats 4000000 in
set_option maxRecDepth 100000 in
theorem skip_any (b me ma : Nat) (last : Int) (rest : List Tok) (d : Nat) (s : Sh) (hs : s.1 ≠ 0) (w : World) (hR : Rdr w b me ma last rest d) : Calls Tryz.prog 59 #[.pointer (some ⟨b, 0, none⟩), .agg #[.int .i64 s.1, .string (tx s.2)]] w (fun e w' => (shapeL rest = s ∧ e = .returned (.bool true) ∧ ∃ y r, rest = y :: r ∧ Rdr w' b me ma y.2 r d ∧ w.grownBy w' (some b)) ∨ (shapeL rest ≠ s ∧ e = .returned (.bool false) ∧ Below w.heap.size w w')) := by
  have hx : Below w.heap.size w (w.alloc (.cells #[.int .i64 s.1, .string (tx s.2)] 105)) := (Below.refl _ _).alloc (Nat.le_refl _) _
  have c0 : (w.alloc (.cells #[.int .i64 s.1, .string (tx s.2)] 105)).cell? ⟨w.heap.size, 0, none⟩ = some (.int .i64 s.1) := by simp [go_sem]
  have c1 : (w.alloc (.cells #[.int .i64 s.1, .string (tx s.2)] 105)).cell? ⟨w.heap.size, 1, none⟩ = some (.string (tx s.2)) := by simp [go_sem]
  have HX := Lib.hid (And.intro hx (hR.later hx))
  have HS0 := Lib.hid hs
  clear hx hR hs
  go_enter Tryz.func59, Tryz.ntmps59
  go_upto_region 1 with fail
  generalize (w.alloc (.cells #[.int .i64 s.1, .string (tx s.2)] 105)) = W at *
  have HA := Lib.hid (isAhead_any b me ma last rest d s W HX.out.2)
  go_wp2_with fail
  refine HA.out.mono ?_
  rintro e w2 ⟨rfl, hb⟩
  have H2 := Lib.hid (And.intro (onB' HX.out.1 hb) (HX.out.2.later hb))
  clear hb HA HX c0 c1
  by_cases g : shapeL rest = s
  · rw [decide_eq_true g]
    have HG := Lib.hid g
    cases rest with
    | nil =>
      exfalso
      apply HS0.out
      rw [← HG.out]
      rfl
    | cons y r =>
      have HT := Lib.hid (take_any b me ma last y r d w2 H2.out.2)
      clear g
      go_wp2_with fail
      refine HT.out.mono ?_
      rintro e w3 ⟨rfl, hR3, hg3⟩
      have H3 := Lib.hid (And.intro hR3 (grown_trans (grown_of H2.out.1) hg3))
      clear hR3 hg3 HT
      go_wp2_with fail
      go_ret
      exact Or.inl ⟨HG.out, rfl, y, r, rfl, H3.out.1, H3.out.2⟩
  · rw [decide_eq_false g]
    have HG := Lib.hid g
    clear g
    go_wp2_with fail
    go_ret
    exact Or.inr ⟨HG.out, rfl, H2.out.1⟩

end Go.Proofs.YtbnmmbjajheedaaGreatDoor

/- What must stand there; names. -/
namespace Go.Proofs.YtbnmmbjajheedaaGreatDoor
open Go.RowKit Go.Lib

theorem take_of {rest : List Tok} {s : Sh} (h : shapeL rest = s) (hs : s.1 ≠ 0) : ∃ y r, rest = y :: r := by
  cases rest with
  | nil =>
    exfalso
    apply hs
    rw [← h]
    rfl
  | cons y r => exact ⟨y, r, rfl⟩
/-- The box that an answer of five cells is laid into. -/
theorem Rdr.over5 {W : World} {b me ma : Nat} {last : Int} {rest : List Tok} {d : Nat} (h : Rdr W b me ma last rest d) {p : Nat} (hp : b < p) (v0 v1 v2 v3 v4 : Value) : Rdr (((((W.setCell ⟨p, 0, none⟩ v0).setCell ⟨p, 1, none⟩ v1).setCell ⟨p, 2, none⟩ v2).setCell ⟨p, 3, none⟩ v3).setCell ⟨p, 4, none⟩ v4) b me ma last rest d := ((((h.over hp _).over hp _).over hp _).over hp _).over hp _
theorem grown_new5 {w W : World} {b p : Nat} (h : w.grownBy W (some b)) (hp : w.heap.size ≤ p) (v0 v1 v2 v3 v4 : Value) : w.grownBy (((((W.setCell ⟨p, 0, none⟩ v0).setCell ⟨p, 1, none⟩ v1).setCell ⟨p, 2, none⟩ v2).setCell ⟨p, 3, none⟩ v3).setCell ⟨p, 4, none⟩ v4) (some b) := grown_new (grown_new (grown_new (grown_new (grown_new h hp _) hp _) hp _) hp _) hp _

set_option maxHeartbeats 4000000 in
set_option maxRecDepth 100000 in
theorem want_any (b me ma : Nat) (last : Int) (rest : List Tok) (d : Nat) (s : Sh) (hs : s.1 ≠ 0) (w : World) (hR : Rdr w b me ma last rest d) : Calls Tryz.prog 62 #[.pointer (some ⟨b, 0, none⟩), .agg #[.int .i64 s.1, .string (tx s.2)]] w (OutSaid b me ma d TokV (wantO s last rest) w) := by
  have HBW := Lib.hid (show b < w.heap.size from World.block_lt_of_cell? _ _ hR.c1)
  have hx : Below w.heap.size w (w.alloc (.cells #[.int .i64 s.1, .string (tx s.2)] 105)) := (Below.refl _ _).alloc (Nat.le_refl _) _
  have hx2 : Below w.heap.size w ((w.alloc (.cells #[.int .i64 s.1, .string (tx s.2)] 105)).alloc (.cells #[.int .i64 0, .string ⟨#[]⟩, .bool false, .int .u64 0, .int .i64 0] 41)) := hx.alloc (by simp) _
  have c0 : ((w.alloc (.cells #[.int .i64 s.1, .string (tx s.2)] 105)).alloc (.cells #[.int .i64 0, .string ⟨#[]⟩, .bool false, .int .u64 0, .int .i64 0] 41)).cell? ⟨w.heap.size, 0, none⟩ = some (.int .i64 s.1) := by simp [go_sem]
  have c1 : ((w.alloc (.cells #[.int .i64 s.1, .string (tx s.2)] 105)).alloc (.cells #[.int .i64 0, .string ⟨#[]⟩, .bool false, .int .u64 0, .int .i64 0] 41)).cell? ⟨w.heap.size, 1, none⟩ = some (.string (tx s.2)) := by simp [go_sem]
  have d0 : ((w.alloc (.cells #[.int .i64 s.1, .string (tx s.2)] 105)).alloc (.cells #[.int .i64 0, .string ⟨#[]⟩, .bool false, .int .u64 0, .int .i64 0] 41)).cell? ⟨w.heap.size + 1, 0, none⟩ = some (.int .i64 0) := by simp [go_sem]
  have d1 : ((w.alloc (.cells #[.int .i64 s.1, .string (tx s.2)] 105)).alloc (.cells #[.int .i64 0, .string ⟨#[]⟩, .bool false, .int .u64 0, .int .i64 0] 41)).cell? ⟨w.heap.size + 1, 1, none⟩ = some (.string ⟨#[]⟩) := by simp [go_sem]
  have d2 : ((w.alloc (.cells #[.int .i64 s.1, .string (tx s.2)] 105)).alloc (.cells #[.int .i64 0, .string ⟨#[]⟩, .bool false, .int .u64 0, .int .i64 0] 41)).cell? ⟨w.heap.size + 1, 2, none⟩ = some (.bool false) := by simp [go_sem]
  have d3 : ((w.alloc (.cells #[.int .i64 s.1, .string (tx s.2)] 105)).alloc (.cells #[.int .i64 0, .string ⟨#[]⟩, .bool false, .int .u64 0, .int .i64 0] 41)).cell? ⟨w.heap.size + 1, 3, none⟩ = some (.int .u64 0) := by simp [go_sem]
  have d4 : ((w.alloc (.cells #[.int .i64 s.1, .string (tx s.2)] 105)).alloc (.cells #[.int .i64 0, .string ⟨#[]⟩, .bool false, .int .u64 0, .int .i64 0] 41)).cell? ⟨w.heap.size + 1, 4, none⟩ = some (.int .i64 0) := by simp [go_sem]
  have rz : ∀ j, ((w.alloc (.cells #[.int .i64 s.1, .string (tx s.2)] 105)).alloc (.cells #[.int .i64 0, .string ⟨#[]⟩, .bool false, .int .u64 0, .int .i64 0] 41)).frozen? ⟨w.heap.size + 1, j, none⟩ = false := fun j => by simp
  have HX := Lib.hid (And.intro hx2 (hR.later hx2))
  have HS0 := Lib.hid hs
  have HD := Lib.hid (And.intro d0 (And.intro d1 (And.intro d2 (And.intro d3 (And.intro d4 rz)))))
  clear hx hx2 hR hs d0 d1 d2 d3 d4 rz
  go_enter Tryz.func62, Tryz.ntmps62
  go_upto_region 1 with fail
  generalize ((w.alloc (.cells #[.int .i64 s.1, .string (tx s.2)] 105)).alloc (.cells #[.int .i64 0, .string ⟨#[]⟩, .bool false, .int .u64 0, .int .i64 0] 41)) = W at *
  have HA := Lib.hid (isAhead_any b me ma last rest d s W HX.out.2)
  go_wp2_with fail
  refine HA.out.mono ?_
  rintro e w2 ⟨rfl, hb⟩
  have rl : w.heap.size + 1 < W.heap.size := World.block_lt_of_cell? _ _ HD.out.1
  have H2 := Lib.hid (And.intro (onB' HX.out.1 hb) (HX.out.2.later hb))
  have HD2 := Lib.hid (And.intro (later' hb HD.out.1) (And.intro (later' hb HD.out.2.1) (And.intro (later' hb HD.out.2.2.1) (And.intro (later' hb HD.out.2.2.2.1) (And.intro (later' hb HD.out.2.2.2.2.1) (fun j => (World.frozen?_of_block (w := W) (hb.block _ (by simpa using rl))).trans (HD.out.2.2.2.2.2 j)))))))
  clear hb HA HX c0 c1 HD
  by_cases g : shapeL rest = s
  · rw [decide_eq_true g]
    obtain ⟨y, r, rfl⟩ := take_of g HS0.out
    have hw : wantO s last (y :: r) = .ok y y.2 r := by unfold wantO; rw [if_pos g]; rfl
    have HW := Lib.hid hw
    have HT := Lib.hid (take_any b me ma last y r d w2 H2.out.2)
    clear g hw
    go_wp2_with fail
    refine HT.out.mono ?_
    rintro e w3 ⟨rfl, hR3, hg3⟩
    have hn : w.heap.size + 1 ≠ b := by have := HBW.out; omega
    obtain ⟨d0, d1, d2, d3, d4, dz⟩ := HD2.out
    have hn' : some (w.heap.size + 1) ≠ some b := by simpa using hn
    have rl2 : w.heap.size + 1 < w2.heap.size := World.block_lt_of_cell? _ _ d0
    replace d0 := hg3.cell d0 hn'
    replace d1 := hg3.cell d1 hn'
    replace d2 := hg3.cell d2 hn'
    replace d3 := hg3.cell d3 hn'
    replace d4 := hg3.cell d4 hn'
    have z : ∀ j, w3.frozen? ⟨w.heap.size + 1, j, none⟩ = false := fun j => (World.frozen?_of_block (w := w2) (hg3.block _ rl2 hn')).trans (dz j)
    have z0 := z 0
    have z1 := z 1
    have z2 := z 2
    have z3 := z 3
    have z4 := z 4
    have H3 := Lib.hid (And.intro hR3 (grown_trans (grown_of H2.out.1) hg3))
    clear hR3 hg3 HT z dz HD2 rl2
    go_wp2_with fail
    obtain ⟨v0, v1, v2, v3, v4⟩ := set5 d0 d1 d2 d3 d4 (.int .i64 y.1.k) (.string (tx y.1.t)) (.bool y.1.f) (.int .u64 y.1.x) (.int .i64 y.2)
    refine bodyPost_ret (v := .agg #[.int .i64 y.1.k, .string (tx y.1.t), .bool y.1.f, .int .u64 y.1.x, .int .i64 y.2]) (by simp [results, Tryz.results62, go_sem, v0, v1, v2, v3, v4]) rfl ?_
    rw [HW.out]
    exact ⟨rfl, H3.out.1.over5 (by have := HBW.out; omega) _ _ _ _ _, grown_new5 H3.out.2 (by omega) _ _ _ _ _⟩
  · rw [decide_eq_false g]
    have hw : wantO s last rest = .bad (refE 3 last rest).1 (refE 3 last rest).2 := by unfold wantO; rw [if_neg g, refuseO_eq]
    have HW := Lib.hid hw
    have HT := Lib.hid (refuse_any b me ma last rest d 3 w2 H2.out.2)
    clear g hw
    go_wp2_with fail
    refine HT.out.mono ?_
    rintro e w3 ⟨hbr, hb3⟩
    have H3 := Lib.hid (And.intro hbr (grown_trans (b := b) (grown_of H2.out.1) (grown_of hb3)))
    unfold Broken at hbr
    subst hbr
    clear hb3 HT HD2
    go_wp2_with fail
    refine ⟨rfl, ?_⟩
    rw [HW.out]
    exact ⟨rfl, H3.out.2⟩

end Go.Proofs.YtbnmmbjajheedaaGreatDoor

/- Names, as many as stand there. -/
namespace Go.Proofs.YtbnmmbjajheedaaGreatDoor
open Go.RowKit Go.Lib

/-- A list of its own stands where the reader is moved on. -/
theorem own_kept {w w' : World} {base : Nat} {e : TypeId} {size : Nat} {v : Value} {n : Nat} {xs : List Value} (h : w.ownsRow base e size v n xs) {b : Nat} (hb : w.grownBy w' (some b)) (hn : v.ownBlock ≠ some b) : w'.ownsRow base e size v n xs := by
  obtain ⟨h0, h | ⟨g, cap, cur, rfl, h2, h3, h4⟩⟩ := h
  · exact ⟨h0, Or.inl h⟩
  · refine ⟨h0, Or.inr ⟨g, cap, cur, rfl, h2, ?_, h4⟩⟩
    have hg : g < w.heap.size := by
      rcases Nat.lt_or_ge g w.heap.size with h | h
      · exact h
      · rw [Array.getElem?_eq_none h] at h3; cases h3
    rw [hb.block g hg (fun e => hn (by rw [← e]; rfl))]
    exact h3

/-- The reader, where a list of its own grows that lies behind it. -/
theorem RestIn.past {w w' : World} {b q : Nat} {v : Value} {rest : List Tok} (h : RestIn w b v rest) (hb : w.grownBy w' (some q)) (hq : b < q) : RestIn w' b v rest := by
  obtain ⟨a, c, e, h1, h2, h3⟩ := h
  refine ⟨a, c, e, h1, h2, ?_⟩
  rcases h3 with h3 | ⟨g, o, e2, hg, ht⟩
  · exact Or.inl h3
  · exact Or.inr ⟨g, o, e2, hg, fun i hi => (ht i hi).later (by omega) hb⟩
theorem Rdr.past {w w' : World} {b me ma q : Nat} {last : Int} {rest : List Tok} {d : Nat} (h : Rdr w b me ma last rest d) (hb : w.grownBy w' (some q)) (hq : b < q) : Rdr w' b me ma last rest d := by
  obtain ⟨v, hv, hr⟩ := h.c0
  have lt := World.block_lt_of_cell? _ _ hv
  have hn : ∀ {j}, some (⟨b, j, none⟩ : Addr).block ≠ some q := by intro j e; simp at e; omega
  exact ⟨⟨v, hb.cell hv hn, hr.past hb hq⟩, hb.cell h.c1 hn, hb.cell h.c2 hn, hb.cell h.c3 hn, hb.cell h.c4 hn, fun j => (World.frozen?_of_block (w := w) (hb.block _ (by simpa using lt) (by simp; omega))).trans (h.z j)⟩
/-- A block behind: one to name, whether a list had its own or not. -/
theorem grown_some {w w' : World} {o : Option Nat} {b : Nat} (hb : w.grownBy w' o) (ho : ∀ g, o = some g → b < g) : ∃ q, b < q ∧ w.grownBy w' (some q) := by
  cases o with
  | some q => exact ⟨q, ho q rfl, hb⟩
  | none => exact ⟨b + 1, by omega, hb.os, hb.tape, hb.output, hb.size, fun k hk _ => hb.block k hk (by simp)⟩
theorem grown_past {w w' w'' : World} {o : Option Nat} {b : Nat} (h : w.grownBy w' (some b)) (h2 : w'.grownBy w'' o) (ho : ∀ g, o = some g → w.heap.size ≤ g) : w.grownBy w'' (some b) :=
  ⟨h2.os.trans h.os, h2.tape.trans h.tape, h2.output.trans h.output, Nat.le_trans h.size h2.size, fun k hk hne => (h2.block k (Nat.lt_of_lt_of_le hk h.size) (fun e => by have := ho k e.symm; omega)).trans (h.block k hk hne)⟩
/-- The length that a list's value bears. -/
def lenOf : Value → Nat
  | .slice _ n _ => n
  | _ => 0
theorem Tryz.info_text : (Tryz.prog.info? 9).map (fun i => (i.zero, i.size, i.bytes)) = some (some (.string ⟨#[]⟩), 1, 16) := by kernel_rfl
theorem own_shape {w : World} {base : Nat} {e : TypeId} {size : Nat} {v : Value} {n : Nat} {xs : List Value} (h : w.ownsRow base e size v n xs) : ∃ a c, v = .slice a n c ∧ ∀ g, v.ownBlock = some g → base ≤ g := by
  obtain ⟨h0, ⟨rfl, rfl⟩ | ⟨g, cap, cur, rfl, h2, h3⟩⟩ := h
  · exact ⟨_, _, rfl, fun g hg => by cases hg⟩
  · exact ⟨_, _, rfl, fun g' hg => by cases hg; exact h2⟩
def NamesSaid (b me ma d : Nat) (o : List Nm × Int × List Tok) (w : World) (e : Ending) (w' : World) : Prop :=
  ∃ v, e = .returned v ∧ Rdr w' b me ma o.2.1 o.2.2 d ∧ w.grownBy w' (some b) ∧ w'.ownsRow w.heap.size 9 1 v o.1.length (o.1.map fun x => .string (tx x))

set_option maxHeartbeats 4000000 in
set_option maxRecDepth 100000 in
theorem names_any (b me ma : Nat) (last : Int) (rest : List Tok) (d : Nat) (hL : rest.length ≤ 4096) (w : World) (hE : Env8 w b) (hR : Rdr w b me ma last rest d) : Calls Tryz.prog 90 #[.pointer (some ⟨b, 0, none⟩)] w (NamesSaid b me ma d (namesO last rest []) w) := by
  have hbw : b < w.heap.size := World.block_lt_of_cell? _ _ hR.c1
  have HE := Lib.hid (And.intro hE (And.intro hR hL))
  obtain ⟨i0, hi0, hz0, hzs, hzb⟩ := info_parts Tryz.info_text
  clear hE hR hL
  go_enter Tryz.func90, Tryz.ntmps90
  go_wp2_with fail
  go_loopw [3] (fun s3 wr => ∃ (l : Int) (r : List Tok) (acc : List Nm) (vv : Value), vv = s3 ∧ Rdr wr b me ma l r d ∧ w.grownBy wr (some b) ∧ namesO l r acc = namesO last rest [] ∧ acc.length + r.length = rest.length ∧ wr.ownsRow w.heap.size 9 1 vv acc.length (acc.map fun x => .string (tx x))) (fun s3 _ => rest.length - lenOf s3)
  case atStart => exact ⟨last, rest, [], _, rfl, HE.out.2.1, grown_of (Below.refl _ _), rfl, by simp, World.ownsRow_nil _ _ _ _⟩
  case round =>
    obtain ⟨l, r, acc, vv, rfl, hR, hg, hN, hn, hown⟩ := hrel
    obtain ⟨aa, cc, rfl, hlow⟩ := own_shape hown
    have hs := ((HE.out.1).later hg).name.1
    have c0 := hs.1
    have c1 := hs.2
    have HA := Lib.hid (isAhead_any b me ma l r d sName wr hR)
    have HQ := Lib.hid (And.intro hR (And.intro hg (And.intro hN (And.intro hn (And.intro hown hlow)))))
    clear hR hg hN hn hown hlow hs
    go_wp2_with fail
    refine HA.out.mono ?_
    rintro e w2 ⟨rfl, hb⟩
    have H2 := Lib.hid (And.intro (HQ.out.1.later hb) (grown_trans HQ.out.2.1 (grown_of hb)))
    have HO2 := Lib.hid (own_kept HQ.out.2.2.2.2.1 (grown_of (b := b) hb) (fun e => by have := HQ.out.2.2.2.2.2 b e; omega))
    have HN := Lib.hid (And.intro HQ.out.2.2.1 HQ.out.2.2.2.1)
    have HF := Lib.hid HQ.out.2.2.2.2.2
    clear hb HA c0 c1 HQ
    by_cases g : shapeL r = sName
    · rw [decide_eq_true g]
      obtain ⟨y, r, rfl⟩ := take_of g (by decide)
      have hN' : namesO y.2 r (acc ++ [y.1.t]) = namesO last rest [] := by
        rw [← HN.out.1]
        conv => rhs; unfold namesO
        exact (if_pos g).symm
      have hn : acc.length + r.length + 1 = rest.length := by have := HN.out.2; simp only [List.length_cons] at this; omega
      have hL := HE.out.2.2
      have HT := Lib.hid (take_any b me ma l y r d w2 H2.out.1)
      have HN' := Lib.hid hN'
      clear g hN' HN
      go_wp2_with fail
      refine HT.out.mono ?_
      rintro e w3 ⟨rfl, hR3, hg3⟩
      have H3 := Lib.hid (And.intro hR3 (grown_trans H2.out.2 hg3))
      have HO3 := Lib.hid (own_kept HO2.out hg3 (fun e => by have := HF.out b e; omega))
      have hwz : w.heap.size ≤ w3.heap.size := H3.out.2.size
      have hf1 := fun W => tok_field1 y.1.k (tx y.1.t) y.1.f y.1.x y.2 W
      have one1 : ∀ u ∈ [Value.string (tx y.1.t)], u.oneCell' = true := by intro u hu; simp at hu; rw [hu]; rfl
      have m9 : acc.length + 1 ≤ maxLen := by unfold maxLen; omega
      have m8 : (acc.length + 1) * 16 ≤ 140737488355328 := by omega
      clear hR3 hg3 HT HO2 H2
      go_wp2_with (at_builtin; refine wpList_append_lies _ rfl _ _ 45 rfl w.heap.size 9 i0 (.string ⟨#[]⟩) 1 16 Tryz.underlying45 hi0 hz0 hzs hzb rfl (by decide) (.slice aa acc.length cc) acc.length (acc.map fun x => .string (tx x)) rfl (HO3.out.alloc _) ⟨w3.heap.size, 0, none⟩ 1 1 [.string (tx y.1.t)] rfl rfl (World.news_of_block (heap_alloc_new _ _)) one1 (by decide) m9 m8 (by simp; omega) _ rfl ?_; intro g9 cap9 w9 o1 o2 o3 o4)
      have hxx := (Below.refl w3.heap.size w3).alloc (Nat.le_refl _) (.cells #[.string (tx y.1.t)] 9)
      obtain ⟨q, hq, hg9⟩ := grown_some (b := b) o2 (fun g e => by have := HF.out g e; omega)
      refine ⟨⟨y.2, r, acc ++ [y.1.t], _, rfl, (H3.out.1.later hxx).past hg9 hq, grown_past (grown_trans H3.out.2 (grown_of hxx)) o2 HF.out, HN'.out, by simp; omega, ?_⟩, by simp [lenOf]; omega⟩
      simpa using o1
    · rw [decide_eq_false g]
      have hN' : (acc, l, r) = namesO last rest [] := by
        rw [← HN.out.1]
        cases r with
        | nil => rfl
        | cons y r =>
          unfold namesO
          exact (if_neg g).symm
      have HN' := Lib.hid hN'
      clear g hN' HN
      go_wp2_with fail
      refine bodyPost_ret (v := .slice aa acc.length cc) (by simp [results, Tryz.results90, go_sem]) rfl ?_
      rw [← HN'.out]
      exact ⟨_, rfl, H2.out.1, H2.out.2, HO2.out⟩

end Go.Proofs.YtbnmmbjajheedaaGreatDoor

/- How what the next token begins is read. -/
namespace Go.Proofs.YtbnmmbjajheedaaGreatDoor
open Go.RowKit Go.Lib

/-- A key that is a shape can be asked for. -/
theorem check_shape (em : Bool) (n : Nat) (a : Sh) (w : World) : (Instr.checkKey em (n + 2) 105 (.agg #[.int .i64 a.1, .string (tx a.2)])).run Tryz.prog w = .ok () w := by
  have hf : Tryz.prog.underlying 105 = some (.struct #[⟨"kind", 3, 0, false, "", "treadwheel/parse", 0⟩, ⟨"text", 9, 1, false, "", "treadwheel/parse", 8⟩]) := by kernel_rfl
  have q1 : ∀ (x : Int) (w : World), (Instr.checkKey em (n + 1) 3 (.int .i64 x)).run Tryz.prog w = .ok () w := fun x w => by simp [Instr.checkKey, run_underlying Tryz.underlying3]
  have q2 : ∀ (x : ByteArray) (w : World), (Instr.checkKey em (n + 1) 9 (.string x)).run Tryz.prog w = .ok () w := fun x w => by simp [Instr.checkKey, run_underlying Tryz.underlying9]
  have p0 : ∀ (x : Int) (s : ByteArray) (w : World), (part 3 #[.int .i64 x, .string s] 0).run Tryz.prog w = .ok (.int .i64 x) w := by intro x s w; simp [part, Tryz.isAgg3, go_sem]
  have p1 : ∀ (x : Int) (s : ByteArray) (w : World), (part 9 #[.int .i64 x, .string s] 1).run Tryz.prog w = .ok (.string s) w := by intro x s w; simp [part, Tryz.isAgg9, go_sem]
  rw [Instr.checkKey]
  generalize hE : Instr.checkKey em (n + 1) 3 = E at *
  generalize hF : Instr.checkKey em (n + 1) 9 = F at *
  simp [run_underlying hf, p0, p1, q1, q2, hE, hF]

/-- A map of shapes as it lies: its entries in their order. -/
def entries (es : List (Sh × Value)) : List MapEntry := es.zipIdx.map fun p => ⟨.agg #[.int .i64 p.1.1.1, .string (tx p.1.1.2)], p.1.2, p.2⟩
def lookSh (es : List (Sh × Value)) (s : Sh) : Option Value := (es.find? fun p => decide (p.1 = s)).map (·.2)
theorem find_shape (s : Sh) (w : World) : ∀ (es : List (Sh × Value)) (k i : Nat), ∃ r, (Instr.findAsking 105 (.agg #[.int .i64 s.1, .string (tx s.2)]) ((es.zipIdx k).map fun p => ⟨.agg #[.int .i64 p.1.1.1, .string (tx p.1.1.2)], p.1.2, p.2⟩) i).run Tryz.prog w = .ok r w ∧ r.map (·.2) = lookSh es s
  | [], k, i => ⟨none, by simp [Instr.findAsking], rfl⟩
  | e :: es, k, i => by
    have he : (Op.equal 105 (.agg #[.int .i64 s.1, .string (tx s.2)]) (.agg #[.int .i64 e.1.1, .string (tx e.1.2)])).run Tryz.prog w = .ok (decide (s = e.1)) w := eq_shape 9997 s e.1 w
    obtain ⟨r, hr, hl⟩ := find_shape s w es (k + 1) (i + 1)
    generalize hq : Op.equal = E at he
    by_cases g : s = e.1
    · refine ⟨some (i, e.2), ?_, ?_⟩
      · rw [decide_eq_true g] at he
        simp [Instr.findAsking, hq, he]
      · simp [lookSh, g]
    · refine ⟨r, ?_, ?_⟩
      · rw [decide_eq_false g] at he
        simpa [Instr.findAsking, hq, he] using hr
      · have g' : ¬ e.1 = s := fun e => g e.symm
        simp [lookSh, g'] at hl ⊢
        exact hl

/-- A map of forms. -/
def KF (w : World) (m : Nat) (es : List (Sh × Value)) : Prop := ∃ es' c, w.heap[m]? = some (.map (entries es').toArray c) ∧ ∀ s, lookSh es' s = lookSh es s
theorem KF.later {w w' : World} {m b : Nat} {es : List (Sh × Value)} (h : KF w m es) (hb : w.grownBy w' (some b)) (hm : m ≠ b) : KF w' m es := by
  obtain ⟨es', c, h, hl⟩ := h
  have lt : m < w.heap.size := by
    rcases Nat.lt_or_ge m w.heap.size with h' | h'
    · exact h'
    · rw [Array.getElem?_eq_none h'] at h; cases h
  exact ⟨es', c, (hb.block m lt (by simpa using hm)).trans h, hl⟩
theorem KF.below {w w' : World} {m : Nat} {es : List (Sh × Value)} (h : KF w m es) (hb : Below w.heap.size w w') : KF w' m es := h.later (b := m + 1) (grown_of hb) (by omega)
theorem findKey_shape (s : Sh) (es : List (Sh × Value)) (w : World) : ∃ r, (Instr.findKey 105 (.agg #[.int .i64 s.1, .string (tx s.2)]) (entries es)).run Tryz.prog w = .ok r w ∧ r.map (·.2) = lookSh es s := by
  have hf : Tryz.prog.underlying 105 = some (.struct (Tryz.prog.fieldsOf 105)) := by kernel_rfl
  obtain ⟨r, h1, h2⟩ := find_shape s w es 0 0
  cases es with
  | nil => exact ⟨none, by simp [Instr.findKey, entries, run_underlying hf, Instr.findNow], rfl⟩
  | cons e es =>
    refine ⟨r, ?_, h2⟩
    have hn : Instr.findNow (.struct (Tryz.prog.fieldsOf 105)) (.agg #[.int .i64 s.1, .string (tx s.2)]) (entries (e :: es)) 0 = none := by simp [entries, Instr.findNow, Instr.sameNow]
    unfold entries at hn ⊢
    generalize hL : (List.map (fun p : (Sh × Value) × Nat => (⟨.agg #[.int .i64 p.1.1.1, .string (tx p.1.1.2)], p.1.2, p.2⟩ : MapEntry)) (e :: es).zipIdx) = L at *
    simp [Instr.findKey, run_underlying hf, hn, h1]
set_option maxRecDepth 100000 in
theorem KF.look {w : World} {m : Nat} {es : List (Sh × Value)} (h : KF w m es) (s : Sh) (ok : Bool) : (Instr.lookup 101 (.map (some m)) (.agg #[.int .i64 s.1, .string (tx s.2)]) ok).run Tryz.prog w = .ok (if ok then .tuple #[(lookSh es s).getD .nilFunc, .bool (lookSh es s).isSome] else (lookSh es s).getD .nilFunc) w := by
  obtain ⟨es', c, h, hl⟩ := h
  rw [← hl s]
  clear hl
  obtain ⟨r, h1, h2⟩ := findKey_shape s es' w
  have hk : Tryz.prog.underlying 101 = some (.map 105 106) := by kernel_rfl
  have hz : ∀ w, (zeroValue 106).run Tryz.prog w = .ok .nilFunc w := fun w => rfl
  have hc := check_shape (entries es').isEmpty 9998 s w
  rw [← h2]
  unfold Instr.lookup
  have hc' : (Instr.checkKey (entries es').isEmpty 10000 105 (.agg #[.int .i64 s.1, .string (tx s.2)])).run Tryz.prog w = .ok () w := hc
  clear hc
  generalize hE : Instr.checkKey (entries es').isEmpty 10000 = E at *
  cases r with
  | none => cases ok <;> simp [run_underlying hk, hE, hc', h1, (by simp [getObj, Sem.run, h] : (getObj m).run Tryz.prog w = .ok (.map (entries es').toArray c) w), hz]
  | some r => cases ok <;> simp [run_underlying hk, hE, hc', h1, (by simp [getObj, Sem.run, h] : (getObj m).run Tryz.prog w = .ok (.map (entries es').toArray c) w)]

/-- What is said of how to read what the next token begins. -/
def FormSaid (p : Int × Int) (es : List (Sh × Value)) (s : Sh) (w : World) (e : Ending) (w' : World) : Prop :=
  (∃ v, lookSh es s = some v ∧ e = .returned v ∧ Below w.heap.size w w') ∨ (lookSh es s = none ∧ Broken p.1 p.2 e ∧ Below w.heap.size w w')
set_option maxHeartbeats 4000000 in
set_option maxRecDepth 100000 in
theorem form_any (b me ma : Nat) (last : Int) (rest : List Tok) (d : Nat) (mm : Nat) (es : List (Sh × Value)) (w : World) (hR : Rdr w b me ma last rest d) (hM : KF w mm es) : Calls Tryz.prog 122 #[.pointer (some ⟨b, 0, none⟩), .map (some mm)] w (FormSaid (refE 3 last rest) es (shapeL rest) w) := by
  have HR := Lib.hid (And.intro hR hM)
  have HA := Lib.hid (ahead_any b me ma last rest d w hR)
  generalize hy : tokO rest = y at HA
  go_enter Tryz.func122, Tryz.ntmps122
  go_wp2_with fail
  refine HA.out.mono ?_
  rintro e w2 ⟨rfl, hb⟩
  have HS := Lib.hid (fun W => shapeOf_any y W)
  go_wp2_with fail
  refine (HS.out _).mono ?_
  rintro e w3 ⟨rfl, hb3⟩
  have hb4 := onB' hb hb3
  have hlk := (HR.out.2.below hb4).look (shapeT y.1) true
  have H4 := Lib.hid hb4
  have hsy : shapeT y.1 = shapeL rest := by rw [← hy]; exact shapeL_tok rest
  rw [hsy] at hlk ⊢
  clear hb hb3 hb4 HA HS
  cases hl : lookSh es (shapeL rest) with
  | some v =>
    rw [hl] at hlk
    simp only [if_true, Option.getD_some, Option.isSome_some] at hlk
    have HL := Lib.hid hl
    clear hl
    go_wp2_with fail
    refine bodyPost_ret (v := v) (by simp [results, Tryz.results122, go_sem]) rfl ?_
    exact Or.inl ⟨v, HL.out, rfl, H4.out⟩
  | none =>
    rw [hl] at hlk
    simp only [if_true, Option.getD_none, Option.isSome_none] at hlk
    have HL := Lib.hid hl
    clear hl
    have HF := Lib.hid (refuse_any b me ma last rest d 3 w3 (HR.out.1.later H4.out))
    go_wp2_with fail
    refine HF.out.mono ?_
    rintro e w5 ⟨hbr, hb5⟩
    have H5 := Lib.hid (And.intro hbr (onB' H4.out hb5))
    unfold Broken at hbr
    subst hbr
    clear hb5 HF
    go_wp2_with fail
    exact ⟨rfl, Or.inr ⟨HL.out, rfl, H5.out.2⟩⟩

end Go.Proofs.YtbnmmbjajheedaaGreatDoor

/- Trees as they lie; a number read. -/
namespace Go.Proofs.YtbnmmbjajheedaaGreatDoor
open Go.RowKit Go.Lib

/-- A list that lies in a block of its own, one of those that are kept. -/
def RowAt (W : World) (K : Nat → Prop) (e : TypeId) (size : Nat) (v : Value) (n : Nat) (xs : List Value) : Prop :=
  xs.length = n * size ∧ ((v = .slice none 0 0 ∧ n = 0) ∨ ∃ g o c cur, v = .slice (some ⟨g, o, none⟩) n c ∧ K g ∧ W.heap[g]? = some (.cells cur e (0, 0)) ∧ n ≤ c ∧ c ≤ maxLen ∧ ∀ j u, xs[j]? = some u → W.cell? ⟨g, o + j, none⟩ = some u)
theorem RowAt.move {W W' : World} {K K' : Nat → Prop} (hK : ∀ g, K g → g < W.heap.size → K' g ∧ W'.heap[g]? = W.heap[g]?) {e : TypeId} {size : Nat} {v : Value} {n : Nat} {xs : List Value} (h : RowAt W K e size v n xs) : RowAt W' K' e size v n xs := by
  obtain ⟨h0, ⟨rfl, rfl⟩ | ⟨g, o, c, cur, rfl, hk, hc, h1, h2, h3⟩⟩ := h
  · exact ⟨h0, Or.inl ⟨rfl, rfl⟩⟩
  · have lt : g < W.heap.size := by
      rcases Nat.lt_or_ge g W.heap.size with h' | h'
      · exact h'
      · rw [Array.getElem?_eq_none h'] at hc; cases hc
    obtain ⟨k1, k2⟩ := hK g hk lt
    exact ⟨h0, Or.inr ⟨g, o, c, cur, rfl, k1, k2.trans hc, h1, h2, fun j u hj => (World.cell?_of_block (a := ⟨g, o + j, none⟩) k2).trans (h3 j u hj)⟩⟩
theorem RowAt.of {W : World} {base : Nat} {K : Nat → Prop} {e : TypeId} {size : Nat} {v : Value} {n : Nat} {xs : List Value} (h : W.ownsRow base e size v n xs) (hk : ∀ g, base ≤ g → K g) : RowAt W K e size v n xs := by
  obtain ⟨h0, ⟨rfl, rfl⟩ | ⟨g, cap, cur, rfl, hb, hc, h1, h2, -, h4⟩⟩ := h
  · exact ⟨h0, Or.inl ⟨rfl, rfl⟩⟩
  · refine ⟨h0, Or.inr ⟨g, 0, cap, cur, rfl, hk g hb, hc, h1, h2, fun j u hj => ?_⟩⟩
    rw [Nat.zero_add, cell_of_row W g j cur e (0, 0) hc]
    rw [← h4] at hj
    have := List.getElem?_take (l := cur.toList) (i := n * size) (j := j)
    rw [hj] at this
    split at this
    · simpa using this.symm
    · cases this
theorem RowAt.nil (W : World) (K : Nat → Prop) (e : TypeId) (size : Nat) : RowAt W K e size (.slice none 0 0) 0 [] := ⟨by simp, Or.inl ⟨rfl, rfl⟩⟩
theorem RowAt.sl {W : World} {K : Nat → Prop} {e : TypeId} {size : Nat} {v : Value} {n : Nat} {xs : List Value} (h : RowAt W K e size v n xs) : ∃ a c, v = .slice a n c := by
  obtain ⟨_, ⟨rfl, rfl⟩ | ⟨g, o, c, cur, rfl, -⟩⟩ := h
  · exact ⟨_, _, rfl⟩
  · exact ⟨_, _, rfl⟩
theorem RowAt.slice {W : World} {K : Nat → Prop} {e : TypeId} {size : Nat} {v : Value} {n : Nat} {xs : List Value} (h : RowAt W K e size v n xs) : ∃ a n c, v = .slice a n c := by
  obtain ⟨a, c, h⟩ := h.sl
  exact ⟨a, n, c, h⟩
theorem RowAt.cap {W : World} {K : Nat → Prop} {e : TypeId} {size : Nat} {v : Value} {n : Nat} {xs : List Value} (h : RowAt W K e size v n xs) : n ≤ maxLen := by
  obtain ⟨_, ⟨rfl, rfl⟩ | ⟨g, o, c, cur, rfl, -, -, h1, h2, -⟩⟩ := h
  · exact Nat.zero_le _
  · omega
/-- The cells of a row, from its first one on. -/
theorem RowAt.at {W : World} {K : Nat → Prop} {e : TypeId} {size : Nat} {a : Option Addr} {n c : Nat} {xs : List Value} (h : RowAt W K e size (.slice a n c) n xs) (hn : 0 < n) : ∃ g o, a = some ⟨g, o, none⟩ ∧ n ≤ c ∧ c ≤ maxLen ∧ K g ∧ ∀ j u, xs[j]? = some u → W.cell? ⟨g, o + j, none⟩ = some u := by
  obtain ⟨_, ⟨e, rfl⟩ | ⟨g, o, c', cur, e, hk, -, h1, h2, h3⟩⟩ := h
  · omega
  · cases e
    exact ⟨g, o, rfl, h1, h2, hk, h3⟩
/-- A row without its first one. -/
theorem RowAt.tail {W : World} {K : Nat → Prop} {e : TypeId} {size n g o c : Nat} {cs xs : List Value} (h : RowAt W K e size (.slice (some ⟨g, o, none⟩) (n + 1) c) (n + 1) (cs ++ xs)) (hs : cs.length = size) {o' : Nat} (ho : n = 0 ∨ o' = o + size) : RowAt W K e size (.slice (some ⟨g, o', none⟩) n (c - 1)) n xs := by
  obtain ⟨h0, ⟨e, h⟩ | ⟨g', o2, c', cur, e, hk, hc, h1, h2, h3⟩⟩ := h
  · omega
  · cases e
    have hx : xs.length = n * size := by
      rw [List.length_append, Nat.succ_mul] at h0
      omega
    refine ⟨hx, Or.inr ⟨g, o', c - 1, cur, rfl, hk, hc, by omega, by omega, fun j u hj => ?_⟩⟩
    rcases ho with rfl | rfl
    · rw [Nat.zero_mul] at hx
      cases xs with
      | nil => cases hj
      | cons x xs => simp at hx
    · have := h3 (size + j) u (by rw [List.getElem?_append_right (by omega), hs, Nat.add_sub_cancel_left]; exact hj)
      rwa [← Nat.add_assoc] at this
def namesV (l : List Nm) : List Value := l.map fun x => .string (tx x)

mutual
/-- A tree's cells. -/
inductive ExAt (W : World) (K : Nat → Prop) : Ex → List Value → Prop
  | mk (k : Int) (n : Nm) (f : Bool) (x : Int) (ps : List Nm) (ks : List Ex) (bs : List Bnd) (al : List Alt) (vp vk vb va : Value) (xk xb xa : List Value)
    (hp : RowAt W K 9 1 vp ps.length (namesV ps)) (hk : RowAt W K 49 8 vk ks.length xk) (hb : RowAt W K 51 10 vb bs.length xb) (ha : RowAt W K 87 13 va al.length xa)
    (tk : ExsAt W K ks xk) (tb : BndsAt W K bs xb) (ta : AltsAt W K al xa) : ExAt W K (.mk k n f x ps ks bs al) [.int .i64 k, .string (tx n), .bool f, .int .u64 x, vp, vk, vb, va]
inductive ExsAt (W : World) (K : Nat → Prop) : List Ex → List Value → Prop
  | nil : ExsAt W K [] []
  | cons (e : Ex) (es : List Ex) (cs xs : List Value) (h : ExAt W K e cs) (t : ExsAt W K es xs) : ExsAt W K (e :: es) (cs ++ xs)
inductive BndsAt (W : World) (K : Nat → Prop) : List Bnd → List Value → Prop
  | nil : BndsAt W K [] []
  | cons (n : Nm) (ps : List Nm) (e : Ex) (bs : List Bnd) (vp : Value) (cs xs : List Value) (hp : RowAt W K 9 1 vp ps.length (namesV ps)) (h : ExAt W K e cs) (t : BndsAt W K bs xs) : BndsAt W K ((n, ps, e) :: bs) (.string (tx n) :: vp :: cs ++ xs)
inductive AltsAt (W : World) (K : Nat → Prop) : List Alt → List Value → Prop
  | nil : AltsAt W K [] []
  | cons (k : Int) (n : Nm) (f : Bool) (x : Int) (ps : List Nm) (e : Ex) (al : List Alt) (vp : Value) (cs xs : List Value) (hp : RowAt W K 9 1 vp ps.length (namesV ps)) (h : ExAt W K e cs) (t : AltsAt W K al xs) : AltsAt W K ((k, n, f, x, ps, e) :: al) (.int .i64 k :: .string (tx n) :: .bool f :: .int .u64 x :: vp :: cs ++ xs)
end
theorem ExAt.move {W W' : World} {K K' : Nat → Prop} (hK : ∀ g, K g → g < W.heap.size → K' g ∧ W'.heap[g]? = W.heap[g]?) {e : Ex} {cs : List Value} (h : ExAt W K e cs) : ExAt W' K' e cs :=
  ExAt.rec (motive_1 := fun e cs _ => ExAt W' K' e cs) (motive_2 := fun es xs _ => ExsAt W' K' es xs) (motive_3 := fun bs xs _ => BndsAt W' K' bs xs) (motive_4 := fun al xs _ => AltsAt W' K' al xs)
    (fun k n f x ps ks bs al vp vk vb va xk xb xa hp hk hb ha _ _ _ t1 t2 t3 => .mk k n f x ps ks bs al vp vk vb va xk xb xa (hp.move hK) (hk.move hK) (hb.move hK) (ha.move hK) t1 t2 t3)
    .nil (fun e es cs xs _ _ h t => .cons e es cs xs h t) .nil (fun n ps e bs vp cs xs hp _ _ h t => .cons n ps e bs vp cs xs (hp.move hK) h t) .nil (fun k n f x ps e al vp cs xs hp _ _ h t => .cons k n f x ps e al vp cs xs (hp.move hK) h t) h
theorem ExsAt.move {W W' : World} {K K' : Nat → Prop} (hK : ∀ g, K g → g < W.heap.size → K' g ∧ W'.heap[g]? = W.heap[g]?) : ∀ {es : List Ex} {xs : List Value}, ExsAt W K es xs → ExsAt W' K' es xs
  | [], _, .nil => .nil
  | e :: es, _, .cons _ _ cs xs h t => .cons e es cs xs (h.move hK) (t.move hK)
theorem BndsAt.move {W W' : World} {K K' : Nat → Prop} (hK : ∀ g, K g → g < W.heap.size → K' g ∧ W'.heap[g]? = W.heap[g]?) : ∀ {bs : List Bnd} {xs : List Value}, BndsAt W K bs xs → BndsAt W' K' bs xs
  | [], _, .nil => .nil
  | _ :: _, _, .cons n ps e bs vp cs xs hp h t => .cons n ps e bs vp cs xs (hp.move hK) (h.move hK) (t.move hK)
theorem AltsAt.move {W W' : World} {K K' : Nat → Prop} (hK : ∀ g, K g → g < W.heap.size → K' g ∧ W'.heap[g]? = W.heap[g]?) : ∀ {al : List Alt} {xs : List Value}, AltsAt W K al xs → AltsAt W' K' al xs
  | [], _, .nil => .nil
  | _ :: _, _, .cons k n f x ps e al vp cs xs hp h t => .cons k n f x ps e al vp cs xs (hp.move hK) (h.move hK) (t.move hK)
theorem ExsAt.snoc {W : World} {K : Nat → Prop} : ∀ {es : List Ex} {xs : List Value} {e : Ex} {cs : List Value}, ExsAt W K es xs → ExAt W K e cs → ExsAt W K (es ++ [e]) (xs ++ cs)
  | [], _, e, cs, .nil, h => by simpa using ExsAt.cons e [] cs [] h .nil
  | e0 :: es, _, e, cs, .cons _ _ c0 x0 h0 t0, h => by simpa [List.append_assoc] using ExsAt.cons e0 _ c0 _ h0 (t0.snoc h)

/-- A tree that is an answer: all that it lies in is new. -/
def ExV (lo : Nat) (x : Ex) (e : Ending) (w : World) : Prop :=
  ∃ k n f u vp vk vb va, e = .returned (.agg #[.int .i64 k, .string n, .bool f, .int .u64 u, vp, vk, vb, va]) ∧ ExAt w (fun g => lo ≤ g) x [.int .i64 k, .string n, .bool f, .int .u64 u, vp, vk, vb, va]
theorem ExAt.leaf (W : World) (K : Nat → Prop) (k : Int) (n : Nm) : ExAt W K (.leaf k n) [.int .i64 k, .string (tx n), .bool false, .int .u64 0, .slice none 0 0, .slice none 0 0, .slice none 0 0, .slice none 0 0] :=
  .mk k n false 0 [] [] [] [] _ _ _ _ [] [] [] (RowAt.nil _ _ _ _) (RowAt.nil _ _ _ _) (RowAt.nil _ _ _ _) (RowAt.nil _ _ _ _) .nil .nil .nil
theorem ExAt.num (W : World) (K : Nat → Prop) (f : Bool) (x : Int) : ExAt W K (.num f x) [.int .i64 3, .string (tx []), .bool f, .int .u64 x, .slice none 0 0, .slice none 0 0, .slice none 0 0, .slice none 0 0] :=
  .mk 3 [] f x [] [] [] [] _ _ _ _ [] [] [] (RowAt.nil _ _ _ _) (RowAt.nil _ _ _ _) (RowAt.nil _ _ _ _) (RowAt.nil _ _ _ _) .nil .nil .nil

/-- Eight cells written in their order. -/
theorem set8 {W : World} {b : Nat} {u0 u1 u2 u3 u4 u5 u6 u7 : Value} (h0 : W.cell? ⟨b, 0, none⟩ = some u0) (h1 : W.cell? ⟨b, 1, none⟩ = some u1) (h2 : W.cell? ⟨b, 2, none⟩ = some u2) (h3 : W.cell? ⟨b, 3, none⟩ = some u3) (h4 : W.cell? ⟨b, 4, none⟩ = some u4) (h5 : W.cell? ⟨b, 5, none⟩ = some u5) (h6 : W.cell? ⟨b, 6, none⟩ = some u6) (h7 : W.cell? ⟨b, 7, none⟩ = some u7) (v0 v1 v2 v3 v4 v5 v6 v7 : Value) : (((((((((((((((W.setCell ⟨b, 0, none⟩ v0)).setCell ⟨b, 1, none⟩ v1)).setCell ⟨b, 2, none⟩ v2)).setCell ⟨b, 3, none⟩ v3)).setCell ⟨b, 4, none⟩ v4)).setCell ⟨b, 5, none⟩ v5)).setCell ⟨b, 6, none⟩ v6)).setCell ⟨b, 7, none⟩ v7).cell? ⟨b, 0, none⟩ = some v0 ∧ (((((((((((((((W.setCell ⟨b, 0, none⟩ v0)).setCell ⟨b, 1, none⟩ v1)).setCell ⟨b, 2, none⟩ v2)).setCell ⟨b, 3, none⟩ v3)).setCell ⟨b, 4, none⟩ v4)).setCell ⟨b, 5, none⟩ v5)).setCell ⟨b, 6, none⟩ v6)).setCell ⟨b, 7, none⟩ v7).cell? ⟨b, 1, none⟩ = some v1 ∧ (((((((((((((((W.setCell ⟨b, 0, none⟩ v0)).setCell ⟨b, 1, none⟩ v1)).setCell ⟨b, 2, none⟩ v2)).setCell ⟨b, 3, none⟩ v3)).setCell ⟨b, 4, none⟩ v4)).setCell ⟨b, 5, none⟩ v5)).setCell ⟨b, 6, none⟩ v6)).setCell ⟨b, 7, none⟩ v7).cell? ⟨b, 2, none⟩ = some v2 ∧ (((((((((((((((W.setCell ⟨b, 0, none⟩ v0)).setCell ⟨b, 1, none⟩ v1)).setCell ⟨b, 2, none⟩ v2)).setCell ⟨b, 3, none⟩ v3)).setCell ⟨b, 4, none⟩ v4)).setCell ⟨b, 5, none⟩ v5)).setCell ⟨b, 6, none⟩ v6)).setCell ⟨b, 7, none⟩ v7).cell? ⟨b, 3, none⟩ = some v3 ∧ (((((((((((((((W.setCell ⟨b, 0, none⟩ v0)).setCell ⟨b, 1, none⟩ v1)).setCell ⟨b, 2, none⟩ v2)).setCell ⟨b, 3, none⟩ v3)).setCell ⟨b, 4, none⟩ v4)).setCell ⟨b, 5, none⟩ v5)).setCell ⟨b, 6, none⟩ v6)).setCell ⟨b, 7, none⟩ v7).cell? ⟨b, 4, none⟩ = some v4 ∧ (((((((((((((((W.setCell ⟨b, 0, none⟩ v0)).setCell ⟨b, 1, none⟩ v1)).setCell ⟨b, 2, none⟩ v2)).setCell ⟨b, 3, none⟩ v3)).setCell ⟨b, 4, none⟩ v4)).setCell ⟨b, 5, none⟩ v5)).setCell ⟨b, 6, none⟩ v6)).setCell ⟨b, 7, none⟩ v7).cell? ⟨b, 5, none⟩ = some v5 ∧ (((((((((((((((W.setCell ⟨b, 0, none⟩ v0)).setCell ⟨b, 1, none⟩ v1)).setCell ⟨b, 2, none⟩ v2)).setCell ⟨b, 3, none⟩ v3)).setCell ⟨b, 4, none⟩ v4)).setCell ⟨b, 5, none⟩ v5)).setCell ⟨b, 6, none⟩ v6)).setCell ⟨b, 7, none⟩ v7).cell? ⟨b, 6, none⟩ = some v6 ∧ (((((((((((((((W.setCell ⟨b, 0, none⟩ v0)).setCell ⟨b, 1, none⟩ v1)).setCell ⟨b, 2, none⟩ v2)).setCell ⟨b, 3, none⟩ v3)).setCell ⟨b, 4, none⟩ v4)).setCell ⟨b, 5, none⟩ v5)).setCell ⟨b, 6, none⟩ v6)).setCell ⟨b, 7, none⟩ v7).cell? ⟨b, 7, none⟩ = some v7 :=
  ⟨((at_oth _ b 7 0 _ (by decide)).trans ((at_oth _ b 6 0 _ (by decide)).trans ((at_oth _ b 5 0 _ (by decide)).trans ((at_oth _ b 4 0 _ (by decide)).trans ((at_oth _ b 3 0 _ (by decide)).trans ((at_oth _ b 2 0 _ (by decide)).trans ((at_oth _ b 1 0 _ (by decide)).trans (at_sam v0 h0)))))))), ((at_oth _ b 7 1 _ (by decide)).trans ((at_oth _ b 6 1 _ (by decide)).trans ((at_oth _ b 5 1 _ (by decide)).trans ((at_oth _ b 4 1 _ (by decide)).trans ((at_oth _ b 3 1 _ (by decide)).trans ((at_oth _ b 2 1 _ (by decide)).trans (at_sam v1 ((at_oth _ b 0 1 _ (by decide)).trans h1)))))))), ((at_oth _ b 7 2 _ (by decide)).trans ((at_oth _ b 6 2 _ (by decide)).trans ((at_oth _ b 5 2 _ (by decide)).trans ((at_oth _ b 4 2 _ (by decide)).trans ((at_oth _ b 3 2 _ (by decide)).trans (at_sam v2 ((at_oth _ b 1 2 _ (by decide)).trans ((at_oth _ b 0 2 _ (by decide)).trans h2)))))))), ((at_oth _ b 7 3 _ (by decide)).trans ((at_oth _ b 6 3 _ (by decide)).trans ((at_oth _ b 5 3 _ (by decide)).trans ((at_oth _ b 4 3 _ (by decide)).trans (at_sam v3 ((at_oth _ b 2 3 _ (by decide)).trans ((at_oth _ b 1 3 _ (by decide)).trans ((at_oth _ b 0 3 _ (by decide)).trans h3)))))))), ((at_oth _ b 7 4 _ (by decide)).trans ((at_oth _ b 6 4 _ (by decide)).trans ((at_oth _ b 5 4 _ (by decide)).trans (at_sam v4 ((at_oth _ b 3 4 _ (by decide)).trans ((at_oth _ b 2 4 _ (by decide)).trans ((at_oth _ b 1 4 _ (by decide)).trans ((at_oth _ b 0 4 _ (by decide)).trans h4)))))))), ((at_oth _ b 7 5 _ (by decide)).trans ((at_oth _ b 6 5 _ (by decide)).trans (at_sam v5 ((at_oth _ b 4 5 _ (by decide)).trans ((at_oth _ b 3 5 _ (by decide)).trans ((at_oth _ b 2 5 _ (by decide)).trans ((at_oth _ b 1 5 _ (by decide)).trans ((at_oth _ b 0 5 _ (by decide)).trans h5)))))))), ((at_oth _ b 7 6 _ (by decide)).trans (at_sam v6 ((at_oth _ b 5 6 _ (by decide)).trans ((at_oth _ b 4 6 _ (by decide)).trans ((at_oth _ b 3 6 _ (by decide)).trans ((at_oth _ b 2 6 _ (by decide)).trans ((at_oth _ b 1 6 _ (by decide)).trans ((at_oth _ b 0 6 _ (by decide)).trans h6)))))))), (at_sam v7 ((at_oth _ b 6 7 _ (by decide)).trans ((at_oth _ b 5 7 _ (by decide)).trans ((at_oth _ b 4 7 _ (by decide)).trans ((at_oth _ b 3 7 _ (by decide)).trans ((at_oth _ b 2 7 _ (by decide)).trans ((at_oth _ b 1 7 _ (by decide)).trans ((at_oth _ b 0 7 _ (by decide)).trans h7))))))))⟩
theorem Rdr.over8 {W : World} {b me ma : Nat} {last : Int} {rest : List Tok} {d : Nat} (h : Rdr W b me ma last rest d) {p : Nat} (hp : b < p) (v0 v1 v2 v3 v4 v5 v6 v7 : Value) : Rdr (((((((((((((((W.setCell ⟨p, 0, none⟩ v0)).setCell ⟨p, 1, none⟩ v1)).setCell ⟨p, 2, none⟩ v2)).setCell ⟨p, 3, none⟩ v3)).setCell ⟨p, 4, none⟩ v4)).setCell ⟨p, 5, none⟩ v5)).setCell ⟨p, 6, none⟩ v6)).setCell ⟨p, 7, none⟩ v7) b me ma last rest d := ((((((((h.over hp _).over hp _).over hp _).over hp _).over hp _).over hp _).over hp _).over hp _)
theorem grown_new8 {w W : World} {b p : Nat} (h : w.grownBy W (some b)) (hp : w.heap.size ≤ p) (v0 v1 v2 v3 v4 v5 v6 v7 : Value) : w.grownBy (((((((((((((((W.setCell ⟨p, 0, none⟩ v0)).setCell ⟨p, 1, none⟩ v1)).setCell ⟨p, 2, none⟩ v2)).setCell ⟨p, 3, none⟩ v3)).setCell ⟨p, 4, none⟩ v4)).setCell ⟨p, 5, none⟩ v5)).setCell ⟨p, 6, none⟩ v6)).setCell ⟨p, 7, none⟩ v7) (some b) := grown_new (grown_new (grown_new (grown_new (grown_new (grown_new (grown_new (grown_new h hp _) hp _) hp _) hp _) hp _) hp _) hp _) hp _
set_option maxHeartbeats 4000000 in
set_option maxRecDepth 100000 in
theorem numAtom_any (b me ma : Nat) (last : Int) (y : Tok) (r : List Tok) (d : Nat) (w : World) (hR : Rdr w b me ma last (y :: r) d) : Calls Tryz.prog 57 #[.pointer (some ⟨b, 0, none⟩)] w (OutSaid b me ma d (ExV w.heap.size) (.ok (.num y.1.f y.1.x) y.2 r) w) := by
  have hlt : b < w.heap.size := World.block_lt_of_cell? _ _ hR.c1
  have hx := (Below.refl w.heap.size w).alloc (Nat.le_refl _) (.cells #[.int .i64 0, .string ⟨#[]⟩, .bool false, .int .u64 0, .slice none 0 0, .slice none 0 0, .slice none 0 0, .slice none 0 0] 49)
  have c := fun j v (h : (#[Value.int .i64 0, .string ⟨#[]⟩, .bool false, .int .u64 0, .slice none 0 0, .slice none 0 0, .slice none 0 0, .slice none 0 0] : Array Value)[j]? = some v) => (show (w.alloc (.cells #[.int .i64 0, .string ⟨#[]⟩, .bool false, .int .u64 0, .slice none 0 0, .slice none 0 0, .slice none 0 0, .slice none 0 0] 49)).cell? ⟨w.heap.size, j, none⟩ = some v by simpa [go_sem] using h)
  have z : ∀ j, (w.alloc (.cells #[.int .i64 0, .string ⟨#[]⟩, .bool false, .int .u64 0, .slice none 0 0, .slice none 0 0, .slice none 0 0, .slice none 0 0] 49)).frozen? ⟨w.heap.size, j, none⟩ = false := fun j => by simp
  have HX := Lib.hid (And.intro hx (And.intro (hR.later hx) (And.intro c z)))
  clear hx c z hR
  go_enter Tryz.func57, Tryz.ntmps57
  go_upto_region 1 with fail
  generalize (w.alloc (.cells #[.int .i64 0, .string ⟨#[]⟩, .bool false, .int .u64 0, .slice none 0 0, .slice none 0 0, .slice none 0 0, .slice none 0 0] 49)) = W at *
  have HT := Lib.hid (take_any b me ma last y r d W HX.out.2.1)
  go_wp2_with fail
  refine HT.out.mono ?_
  rintro e w3 ⟨rfl, hR3, hg3⟩
  have hn' : some w.heap.size ≠ some b := by simp; omega
  have lt : w.heap.size < W.heap.size := World.block_lt_of_cell? _ _ (HX.out.2.2.1 0 _ rfl)
  have c := fun j v h => hg3.cell (HX.out.2.2.1 j v h) hn'
  have z : ∀ j, w3.frozen? ⟨w.heap.size, j, none⟩ = false := fun j => (World.frozen?_of_block (w := W) (hg3.block _ lt hn')).trans (HX.out.2.2.2 j)
  have d0 : w3.cell? ⟨w.heap.size, 0, none⟩ = some (.int .i64 0) := c 0 _ rfl
  have d1 : w3.cell? ⟨w.heap.size, 1, none⟩ = some (.string ⟨#[]⟩) := c 1 _ rfl
  have d2 : w3.cell? ⟨w.heap.size, 2, none⟩ = some (.bool false) := c 2 _ rfl
  have d3 : w3.cell? ⟨w.heap.size, 3, none⟩ = some (.int .u64 0) := c 3 _ rfl
  have d4 : w3.cell? ⟨w.heap.size, 4, none⟩ = some (.slice none 0 0) := c 4 _ rfl
  have d5 : w3.cell? ⟨w.heap.size, 5, none⟩ = some (.slice none 0 0) := c 5 _ rfl
  have d6 : w3.cell? ⟨w.heap.size, 6, none⟩ = some (.slice none 0 0) := c 6 _ rfl
  have d7 : w3.cell? ⟨w.heap.size, 7, none⟩ = some (.slice none 0 0) := c 7 _ rfl
  have z0 := z 0
  have z1 := z 1
  have z2 := z 2
  have z3 := z 3
  have z4 := z 4
  have z5 := z 5
  have z6 := z 6
  have z7 := z 7
  have hf2 := fun W => tok_field2 y.1.k (tx y.1.t) y.1.f y.1.x y.2 W
  have H3 := Lib.hid (And.intro hR3 (grown_trans (grown_of HX.out.1) hg3))
  clear hR3 hg3 HT HX c z lt
  go_wp2_with fail
  obtain ⟨v0, v1, v2, v3, v4, v5, v6, v7⟩ := set8 d0 d1 d2 d3 d4 d5 d6 d7 (.int .i64 3) (.string ⟨#[]⟩) (.bool y.1.f) (.int .u64 y.1.x) (.slice none 0 0) (.slice none 0 0) (.slice none 0 0) (.slice none 0 0)
  refine bodyPost_ret (v := .agg #[.int .i64 3, .string ⟨#[]⟩, .bool y.1.f, .int .u64 y.1.x, .slice none 0 0, .slice none 0 0, .slice none 0 0, .slice none 0 0]) (by simp [results, Tryz.results57, go_sem, v0, v1, v2, v3, v4, v5, v6, v7]) rfl ?_
  exact ⟨⟨_, _, _, _, _, _, _, _, rfl, ExAt.num _ _ _ _⟩, H3.out.1.over8 hlt _ _ _ _ _ _ _ _, grown_new8 H3.out.2 (Nat.le_refl _) _ _ _ _ _ _ _ _⟩

end Go.Proofs.YtbnmmbjajheedaaGreatDoor

/- An atom that is a name. -/
namespace Go.Proofs.YtbnmmbjajheedaaGreatDoor
open Go.RowKit Go.Lib

/-- The box that a tree is laid into, new. -/
def Box8 (p : Nat) (w3 : World) : Prop := w3.cell? ⟨p, 0, none⟩ = some (.int .i64 0) ∧ w3.cell? ⟨p, 1, none⟩ = some (.string ⟨#[]⟩) ∧ w3.cell? ⟨p, 2, none⟩ = some (.bool false) ∧ w3.cell? ⟨p, 3, none⟩ = some (.int .u64 0) ∧ w3.cell? ⟨p, 4, none⟩ = some (.slice none 0 0) ∧ w3.cell? ⟨p, 5, none⟩ = some (.slice none 0 0) ∧ w3.cell? ⟨p, 6, none⟩ = some (.slice none 0 0) ∧ w3.cell? ⟨p, 7, none⟩ = some (.slice none 0 0) ∧ w3.frozen? ⟨p, 0, none⟩ = false ∧ w3.frozen? ⟨p, 1, none⟩ = false ∧ w3.frozen? ⟨p, 2, none⟩ = false ∧ w3.frozen? ⟨p, 3, none⟩ = false ∧ w3.frozen? ⟨p, 4, none⟩ = false ∧ w3.frozen? ⟨p, 5, none⟩ = false ∧ w3.frozen? ⟨p, 6, none⟩ = false ∧ w3.frozen? ⟨p, 7, none⟩ = false
theorem box8 (w : World) (b : Nat) (hb : b < w.heap.size) : ∀ w3, (w.alloc (.cells #[.int .i64 0, .string ⟨#[]⟩, .bool false, .int .u64 0, .slice none 0 0, .slice none 0 0, .slice none 0 0, .slice none 0 0] 49)).grownBy w3 (some b) → Box8 w.heap.size w3 := by
  intro w3 hg
  have hn' : some w.heap.size ≠ some b := by simp; omega
  have c := fun j v (h : (#[.int .i64 0, .string ⟨#[]⟩, .bool false, .int .u64 0, .slice none 0 0, .slice none 0 0, .slice none 0 0, .slice none 0 0] : Array Value)[j]? = some v) => hg.cell (show (w.alloc (.cells #[.int .i64 0, .string ⟨#[]⟩, .bool false, .int .u64 0, .slice none 0 0, .slice none 0 0, .slice none 0 0, .slice none 0 0] 49)).cell? ⟨w.heap.size, j, none⟩ = some v by simpa [go_sem] using h) hn'
  have z : ∀ j, w3.frozen? ⟨w.heap.size, j, none⟩ = false := fun j => (World.frozen?_of_block (w := (w.alloc (.cells #[.int .i64 0, .string ⟨#[]⟩, .bool false, .int .u64 0, .slice none 0 0, .slice none 0 0, .slice none 0 0, .slice none 0 0] 49))) (hg.block _ (by simp) hn')).trans (by simp)
  exact ⟨c 0 _ rfl, c 1 _ rfl, c 2 _ rfl, c 3 _ rfl, c 4 _ rfl, c 5 _ rfl, c 6 _ rfl, c 7 _ rfl, z 0, z 1, z 2, z 3, z 4, z 5, z 6, z 7⟩

set_option maxHeartbeats 4000000 in
set_option maxRecDepth 100000 in
theorem named_any (gk gr : Nat) (k : Int) (b me ma : Nat) (last : Int) (y : Tok) (r : List Tok) (d : Nat) (w : World) (hR : Rdr w b me ma last (y :: r) d) (hk : w.cell? ⟨gk, 0, none⟩ = some (.int .i64 k)) (hr : w.cell? ⟨gr, 0, none⟩ = some (.pointer (some ⟨b, 0, none⟩))) (hkb : gk ≠ b) : Calls Tryz.prog 93 #[.pointer (some ⟨gk, 0, none⟩), .pointer (some ⟨gr, 0, none⟩)] w (OutSaid b me ma d (ExV w.heap.size) (.ok (.leaf k y.1.t) y.2 r) w) := by
  have hlt : b < w.heap.size := World.block_lt_of_cell? _ _ hR.c1
  have hx := (Below.refl w.heap.size w).alloc (Nat.le_refl _) (.cells #[.int .i64 0, .string ⟨#[]⟩, .bool false, .int .u64 0, .slice none 0 0, .slice none 0 0, .slice none 0 0, .slice none 0 0] 49)
  have HX := Lib.hid (And.intro hx (And.intro (hR.later hx) (box8 w b hlt)))
  have k0 := later' hx hk
  have r0 := later' hx hr
  have hkn : some (⟨gk, 0, none⟩ : Addr).block ≠ some b := by simpa using hkb
  clear hx hR hk hr
  go_enter Tryz.func93, Tryz.ntmps93
  go_upto_region 1 with fail
  generalize (w.alloc (.cells #[.int .i64 0, .string ⟨#[]⟩, .bool false, .int .u64 0, .slice none 0 0, .slice none 0 0, .slice none 0 0, .slice none 0 0] 49)) = W at *
  have HT := Lib.hid (take_any b me ma last y r d W.drew (HX.out.2.1.later (Below.refl W.heap.size W).drew))
  have HK := Lib.hid k0
  have hf1 := fun W => tok_field1 y.1.k (tx y.1.t) y.1.f y.1.x y.2 W
  go_region_with (go_at_call 92; refine HT.out.mono ?_; rintro e w3 ⟨rfl, hR3, hg3'⟩; have hg3 := grown_trans (grown_of (b := b) (Below.refl W.heap.size W).drew) hg3'; obtain ⟨d0, d1, d2, d3, d4, d5, d6, d7, z0, z1, z2, z3, z4, z5, z6, z7⟩ := HX.out.2.2 w3 hg3; have k3 := hg3.cell HK.out hkn; have H3 := Lib.hid (And.intro hR3 (grown_trans (grown_of HX.out.1) hg3)); clear hR3 hg3 hg3')
  all_goals
    obtain ⟨v0, v1, v2, v3, v4, v5, v6, v7⟩ := set8 d0 d1 d2 d3 d4 d5 d6 d7 (.int .i64 k) (.string (tx y.1.t)) (.bool false) (.int .u64 0) (.slice none 0 0) (.slice none 0 0) (.slice none 0 0) (.slice none 0 0)
    go_wp2_with fail
    refine bodyPost_ret (v := .agg #[.int .i64 k, .string (tx y.1.t), .bool false, .int .u64 0, .slice none 0 0, .slice none 0 0, .slice none 0 0, .slice none 0 0]) (by simp [results, Tryz.results93, go_sem, v0, v1, v2, v3, v4, v5, v6, v7]) rfl ?_
    exact ⟨⟨_, _, _, _, _, _, _, _, rfl, ExAt.leaf _ _ _ _⟩, H3.out.1.over8 hlt _ _ _ _ _ _ _ _, grown_new8 H3.out.2 (Nat.le_refl _) _ _ _ _ _ _ _ _⟩

end Go.Proofs.YtbnmmbjajheedaaGreatDoor
