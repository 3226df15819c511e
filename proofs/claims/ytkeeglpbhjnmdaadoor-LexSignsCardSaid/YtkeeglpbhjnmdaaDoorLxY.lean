/- The document's token at a place. -/
import Derived.Test.YtkeeglpbhjnmdaaDoorLxW
import Derived.Test.YtkeeglpbhjnmdaaDoorTextJ
namespace Go.Proofs.YtkeeglpbhjnmdaaDoor
open Go.RowKit Go.Lib

/-- A token in a box of its own. -/
structure Bx (W : World) (p : Nat) (kd : Int) (bt : ByteArray) (ff : Bool) (xx ln : Int) : Prop where
  c0 : W.cell? ⟨p, 0, none⟩ = some (.int .i64 kd)
  c1 : W.cell? ⟨p, 1, none⟩ = some (.string bt)
  c2 : W.cell? ⟨p, 2, none⟩ = some (.bool ff)
  c3 : W.cell? ⟨p, 3, none⟩ = some (.int .u64 xx)
  c4 : W.cell? ⟨p, 4, none⟩ = some (.int .i64 ln)
  z : ∀ j, W.frozen? ⟨p, j, none⟩ = false
theorem Bx.later {W W' : World} {b : Nat} {kd : Int} {bt : ByteArray} {ff : Bool} {xx ln : Int} (h : Bx W b kd bt ff xx ln) (hb : Below W.heap.size W W') : Bx W' b kd bt ff xx ln := by
  have lt := World.block_lt_of_cell? _ _ h.c0
  exact ⟨later' hb h.c0, later' hb h.c1, later' hb h.c2, later' hb h.c3, later' hb h.c4, fun j => (World.frozen?_of_block (w := W) (hb.block _ (by simpa using lt))).trans (h.z j)⟩
theorem bx_new (W : World) (kd : Int) (bt : ByteArray) (ff : Bool) (xx ln : Int) : Bx (W.alloc (.cells #[.int .i64 kd, .string bt, .bool ff, .int .u64 xx, .int .i64 ln] 35)) W.heap.size kd bt ff xx ln := ⟨by simp [go_sem], by simp [go_sem], by simp [go_sem], by simp [go_sem], by simp [go_sem], fun j => by simp⟩
theorem at_other (W : World) (b i j : Nat) (v : Value) (h : i ≠ j) : (W.setCell ⟨b, i, none⟩ v).cell? ⟨b, j, none⟩ = W.cell? ⟨b, j, none⟩ := World.cell?_setCell_other _ _ _ _ (by first | (intro e; cases e; exact h rfl) | simp [h])
theorem at_far (W : World) (b c i j : Nat) (v : Value) (h : b ≠ c) : (W.setCell ⟨b, i, none⟩ v).cell? ⟨c, j, none⟩ = W.cell? ⟨c, j, none⟩ := World.cell?_setCell_other _ _ _ _ (by first | (intro e; cases e; exact h rfl) | simp [h])
theorem at_same {W : World} {b i : Nat} {u : Value} (v : Value) (h : W.cell? ⟨b, i, none⟩ = some u) : (W.setCell ⟨b, i, none⟩ v).cell? ⟨b, i, none⟩ = some v := World.cell?_setCell_same _ _ _ h
theorem Bx.set0 {W : World} {p : Nat} {kd : Int} {bt : ByteArray} {ff : Bool} {xx ln : Int} (h : Bx W p kd bt ff xx ln) (v : Int) : Bx (W.setCell ⟨p, 0, none⟩ (.int .i64 v)) p v bt ff xx ln :=
  ⟨at_same _ h.c0, (at_other _ _ _ _ _ (by decide)).trans h.c1, (at_other _ _ _ _ _ (by decide)).trans h.c2, (at_other _ _ _ _ _ (by decide)).trans h.c3, (at_other _ _ _ _ _ (by decide)).trans h.c4, fun j => by simp [h.z j]⟩
theorem Bx.set1 {W : World} {p : Nat} {kd : Int} {bt : ByteArray} {ff : Bool} {xx ln : Int} (h : Bx W p kd bt ff xx ln) (v : ByteArray) : Bx (W.setCell ⟨p, 1, none⟩ (.string v)) p kd v ff xx ln :=
  ⟨(at_other _ _ _ _ _ (by decide)).trans h.c0, at_same _ h.c1, (at_other _ _ _ _ _ (by decide)).trans h.c2, (at_other _ _ _ _ _ (by decide)).trans h.c3, (at_other _ _ _ _ _ (by decide)).trans h.c4, fun j => by simp [h.z j]⟩
theorem Bx.set2 {W : World} {p : Nat} {kd : Int} {bt : ByteArray} {ff : Bool} {xx ln : Int} (h : Bx W p kd bt ff xx ln) (v : Bool) : Bx (W.setCell ⟨p, 2, none⟩ (.bool v)) p kd bt v xx ln :=
  ⟨(at_other _ _ _ _ _ (by decide)).trans h.c0, (at_other _ _ _ _ _ (by decide)).trans h.c1, at_same _ h.c2, (at_other _ _ _ _ _ (by decide)).trans h.c3, (at_other _ _ _ _ _ (by decide)).trans h.c4, fun j => by simp [h.z j]⟩
theorem Bx.set3 {W : World} {p : Nat} {kd : Int} {bt : ByteArray} {ff : Bool} {xx ln : Int} (h : Bx W p kd bt ff xx ln) (v : Int) : Bx (W.setCell ⟨p, 3, none⟩ (.int .u64 v)) p kd bt ff v ln :=
  ⟨(at_other _ _ _ _ _ (by decide)).trans h.c0, (at_other _ _ _ _ _ (by decide)).trans h.c1, (at_other _ _ _ _ _ (by decide)).trans h.c2, at_same _ h.c3, (at_other _ _ _ _ _ (by decide)).trans h.c4, fun j => by simp [h.z j]⟩
theorem Bx.set4 {W : World} {p : Nat} {kd : Int} {bt : ByteArray} {ff : Bool} {xx ln : Int} (h : Bx W p kd bt ff xx ln) (v : Int) : Bx (W.setCell ⟨p, 4, none⟩ (.int .i64 v)) p kd bt ff xx v :=
  ⟨(at_other _ _ _ _ _ (by decide)).trans h.c0, (at_other _ _ _ _ _ (by decide)).trans h.c1, (at_other _ _ _ _ _ (by decide)).trans h.c2, (at_other _ _ _ _ _ (by decide)).trans h.c3, at_same _ h.c4, fun j => by simp [h.z j]⟩
theorem Bx.far {W : World} {p q i : Nat} {kd : Int} {bt : ByteArray} {ff : Bool} {xx ln : Int} (h : Bx W p kd bt ff xx ln) (hn : q ≠ p) (v : Value) : Bx (W.setCell ⟨q, i, none⟩ v) p kd bt ff xx ln :=
  ⟨(at_far _ _ _ _ _ _ hn).trans h.c0, (at_far _ _ _ _ _ _ hn).trans h.c1, (at_far _ _ _ _ _ _ hn).trans h.c2, (at_far _ _ _ _ _ _ hn).trans h.c3, (at_far _ _ _ _ _ _ hn).trans h.c4, fun j => by simp [h.z j]⟩

theorem no_trim2 {c : UInt8} {r : List UInt8} (h : c ≠ 35) : trimPrefix (c :: r) [35] = c :: r := by
  unfold trimPrefix
  rw [if_neg]
  rw [has35_iff]
  exact h

set_option maxHeartbeats 8000000 in
set_option maxRecDepth 100000 in
theorem number7_any (s : ByteArray) (hs : s.size ≤ 100000) (h1 : 1 ≤ s.size) (ln : Int) (w : World) (f : Bool) (x er : Int) (hp : parseL (trimPrefix s.data.toList [35]) = (f, x, er)) :
    Calls Tryd.prog 34 #[.agg #[.int .i64 0, .string s, .bool false, .int .u64 0, .int .i64 ln]] w fun e w' => e = .returned (.tuple #[.agg #[.int .i64 3, .string s, .bool f, .int .u64 x, .int .i64 ln], .int .i64 er]) ∧ Below w.heap.size w w' := by
  have hx := (Below.refl w.heap.size w).alloc (Nat.le_refl _) (.cells #[.int .i64 0, .string s, .bool false, .int .u64 0, .int .i64 ln] 35)
  have hx2 := hx.alloc (by simp) (.cells #[.int .i64 0, .string ⟨#[]⟩, .bool false, .int .u64 0, .int .i64 0] 35)
  have ta := (bx_new w 0 s false 0 ln).later ((Below.refl _ _).alloc (Nat.le_refl _) (.cells #[.int .i64 0, .string ⟨#[]⟩, .bool false, .int .u64 0, .int .i64 0] 35))
  have tb := bx_new (w.alloc (.cells #[.int .i64 0, .string s, .bool false, .int .u64 0, .int .i64 ln] 35)) 0 ⟨#[]⟩ false 0 0
  rw [World.size_alloc] at tb
  have HP := Lib.hid (And.intro hp (And.intro hx2 (And.intro ta tb)))
  clear hp hx hx2 ta tb
  go_enter Tryd.func34, Tryd.ntmps34
  go_upto_region 1 with fail
  generalize ((w.alloc (.cells #[.int .i64 0, .string s, .bool false, .int .u64 0, .int .i64 ln] 35)).alloc (.cells #[.int .i64 0, .string ⟨#[]⟩, .bool false, .int .u64 0, .int .i64 0] 35)) = W at *
  obtain ⟨hp, hW, ta, tb⟩ := HP.out
  have HT := Lib.hid (And.intro hW (And.intro ta tb))
  obtain ⟨c, hd, hsc⟩ := drop_cons_of (s := s) (k := 0) (by omega)
  rw [List.drop_zero] at hd
  have hz : (0 : Int) < (s.size : Int) := by omega
  obtain ⟨x0, x1, x2, x3, x4, xz⟩ := ta
  -- what is parsed
  obtain ⟨S, hS, hSz, hway⟩ : ∃ S : ByteArray, S.data.toList = trimPrefix s.data.toList [35] ∧ S.size ≤ 100000 ∧ ((((c.toNat : Int) == 35) = true ∧ s.extract 1 s.size = S) ∨ (((c.toNat : Int) == 35) = false ∧ s = S)) := by
    by_cases g : c.toNat = 35
    · have gc : c = 35 := UInt8.toNat_inj.1 (by rw [g]; rfl)
      refine ⟨s.extract 1 s.size, ?_, ?_, Or.inl ⟨by simp [g], rfl⟩⟩
      · rw [tail_list, hd, gc]
        simp [trimPrefix, hasPrefix]
      · rw [size_eq, tail_list, List.length_drop, ← size_eq]; omega
    · refine ⟨s, ?_, hs, Or.inr ⟨by simp; omega, rfl⟩⟩
      rw [hd, no_trim2 (fun e => g (by rw [e]; rfl))]
  rw [← hS] at hp
  have HPA := Lib.hid (fun W => refParse_any S hSz W f x er hp)
  have HB0 := Lib.hid (And.intro xz tb)
  clear hp hd xz tb hS HP hSz hW
  rcases hway with ⟨hw, hw2⟩ | ⟨hw, rfl⟩
  all_goals
    go_wp2_with fail
    refine (HPA.out _).mono ?_
    rintro e w2 ⟨rfl, hb⟩
    have H2 := Lib.hid (And.intro (onB' HT.out.1 hb) (And.intro (HT.out.2.1.later hb) (HT.out.2.2.later hb)))
    clear hb x0 x1 x2 x3 x4
    go_upto_region 5 with fail
    have hn := (Below.refl w2.heap.size w2).alloc (Nat.le_refl _) (.cells #[.bool f, .int .u64 x] 33)
    have n0 : (w2.alloc (.cells #[.bool f, .int .u64 x] 33)).cell? ⟨w2.heap.size, 0, none⟩ = some (.bool f) := by simp [go_sem]
    have n1 : (w2.alloc (.cells #[.bool f, .int .u64 x] 33)).cell? ⟨w2.heap.size, 1, none⟩ = some (.int .u64 x) := by simp [go_sem]
    have H3 := Lib.hid (And.intro (onB' H2.out.1 hn) (And.intro (H2.out.2.1.later hn) (H2.out.2.2.later hn)))
    have hlt := World.block_lt_of_cell? _ _ H2.out.2.2.c0
    have hne : w.heap.size ≠ w2.heap.size := by simp only at hlt; omega
    generalize (w2.alloc (.cells #[.bool f, .int .u64 x] 33)) = W3 at *
    generalize w2.heap.size = nb at *
    obtain ⟨x0, x1, x2, x3, x4, xz⟩ := H3.out.2.1
    have z0 := xz 0
    have z2 := xz 2
    have z3 := xz 3
    clear xz hn hlt
    go_upto_region 7 with fail
    have hpq : w.heap.size ≠ w.heap.size + 1 := by omega
    have tp := ((H3.out.2.1.set0 3).set2 f).set3 x
    have tq := ((H3.out.2.2.far (i := 0) hpq (.int .i64 3)).far (i := 2) hpq (.bool f)).far (i := 3) hpq (.int .u64 x)
    have hbw := ((H3.out.1.setCell (p := ⟨w.heap.size, 0, none⟩) (Nat.le_refl _) (.int .i64 3)).setCell (p := ⟨w.heap.size, 2, none⟩) (Nat.le_refl _) (.bool f)).setCell (p := ⟨w.heap.size, 3, none⟩) (Nat.le_refl _) (.int .u64 x)
    clear x0 x1 x2 x3 x4 z0 z2 z3 n0 n1
    generalize (((W3.setCell ⟨w.heap.size, 0, none⟩ (.int .i64 3)).setCell ⟨w.heap.size, 2, none⟩ (.bool f)).setCell ⟨w.heap.size, 3, none⟩ (.int .u64 x)) = W6 at *
    obtain ⟨x0, x1, x2, x3, x4, -⟩ := tp
    obtain ⟨d0, d1, d2, d3, d4, z⟩ := tq
    have HBW := Lib.hid hbw
    clear hbw
    go_wp2_with fail
    obtain ⟨q0, q1, q2, q3, q4⟩ := set5 d0 d1 d2 d3 d4 (.int .i64 3) (.string s) (.bool f) (.int .u64 x) (.int .i64 ln)
    refine bodyPost_ret (v := .tuple #[.agg #[.int .i64 3, .string s, .bool f, .int .u64 x, .int .i64 ln], .int .i64 er]) (by simp [results, Tryd.results34, go_sem, q0, q1, q2, q3, q4]) rfl ?_
    exact ⟨rfl, below_set5 HBW.out (by omega) _ _ _ _ _⟩

end Go.Proofs.YtkeeglpbhjnmdaaDoor
