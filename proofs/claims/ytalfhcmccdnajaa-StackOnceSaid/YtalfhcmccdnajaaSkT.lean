/- StackOnce's note. -/
import Derived.Test.YtalfhcmccdnajaaSkS
namespace Go.Proofs.Ytalfhcmccdnajaa
open Go.RowKit Go.Sort

set_option maxHeartbeats 8000000 in
theorem note_any (b0 bt gt j g5 : Nat) (a0 : Option Addr) (c0 : Nat) (fr : List Int) (x : Int) (K : Nat → Prop) (w : World) (hb0 : w.cell? ⟨b0, 0, none⟩ = some (.slice a0 fr.length c0)) (hfr : WAt K w ⟨0, 0, fr, a0, c0⟩) (hx : fr[j]? = some x)
    (hbt : w.cell? ⟨bt, 0, none⟩ = some (.slice (some ⟨gt, 0, none⟩) fr.length fr.length)) (ht : w.cell? ⟨gt, j, none⟩ = some (.int .i64 0)) (fz : w.frozen? ⟨gt, j, none⟩ = false) (hw : WAt (fun y => y = g5) w ⟨7, j, [x], some ⟨g5, 0, none⟩, 1⟩) (hl : fr.length ≤ 60) (hne : bt ≠ gt) :
    Calls Try.prog 22 #[.agg #[.int .i64 7, .int .i64 j, .slice (some ⟨g5, 0, none⟩) 1 1], .pointer (some ⟨b0, 0, none⟩), .pointer (some ⟨bt, 0, none⟩)] w fun e w' => e = .returned (.bool true) ∧ ∃ W, Below w.heap.size w W ∧ w' = W.setCell ⟨gt, j, none⟩ (.int .i64 1) := by
  have hjl : j < fr.length := (List.getElem?_eq_some_iff.1 hx).1
  obtain ⟨g, o, he, -, hg, -, hc⟩ := hfr.2 (by show 0 < fr.length; omega)
  simp only at he
  subst he
  obtain ⟨g', o', he', -, hg', rfl, hc'⟩ := hw.2 (by simp)
  simp only [Option.some.injEq, Addr.mk.injEq, and_true] at he'
  obtain ⟨-, rfl⟩ := he'
  have hb := (Below.refl w.heap.size w).alloc (Nat.le_refl _) (.cells #[.int .i64 7, .int .i64 j, .slice (some ⟨g', 0, none⟩) 1 1] TF)
  have hxx := box_cells (w := w) (u0 := .int .i64 7) (u1 := .int .i64 j) (u2 := .slice (some ⟨g', 0, none⟩) 1 1) (T := TF)
  have q0 := cell_of_row _ _ 0 _ _ _ hxx
  have q1 := cell_of_row _ _ 1 _ _ _ hxx
  have q2 := cell_of_row _ _ 2 _ _ _ hxx
  have r0 := (World.cell?_of_block (w := w) (a := ⟨b0, 0, none⟩) (hb.block b0 (World.block_lt_of_cell? _ _ hb0))).trans hb0
  have r1 := (World.cell?_of_block (w := w) (a := ⟨bt, 0, none⟩) (hb.block bt (World.block_lt_of_cell? _ _ hbt))).trans hbt
  have r2 := (World.cell?_of_block (w := w) (a := ⟨gt, j, none⟩) (hb.block gt (World.block_lt_of_cell? _ _ ht))).trans ht
  have r3 := (World.frozen?_of_block (w := w) (a := ⟨gt, j, none⟩) (hb.block gt (World.block_lt_of_cell? _ _ ht))).trans fz
  have r4 := (World.cell?_of_block (w := w) (a := ⟨g, o + j, none⟩) (hb.block g hg)).trans (hc j x hx)
  have r5 := (World.cell?_of_block (w := w) (a := ⟨g', 0, none⟩) (hb.block g' hg')).trans (by simpa using hc' 0 x rfl)
  have hgtb : gt < w.heap.size := World.block_lt_of_cell? _ _ ht
  have HB := Lib.hid (And.intro hb (And.intro hgtb hne))
  clear hb hxx hb0 hfr hbt ht fz hw hc hc' hg hg' hx hgtb
  have h1 : ¬ (j : Int) < 0 := by omega
  have h2 : ¬ (fr.length : Int) ≤ (j : Int) := by omega
  have h3 : (j : Int) < (fr.length : Int) := by omega
  go_enter Try.func22, Try.ntmps22
  go_wp2_with fail
  generalize w.alloc (.cells #[.int .i64 7, .int .i64 j, .slice (some ⟨g', 0, none⟩) 1 1] TF) = W at HB q0 q1 q2 r0 r1 r2 r3 r4 r5 ⊢
  generalize hbs : w.heap.size = b1 at q0 q1 q2 ⊢
  have HBS := Lib.hid hbs
  clear hbs
  go_quiet (fail)
  have h4 : ¬ fr.length ≤ j := by omega
  have hBW : Below W.heap.size W (W.drewN nq) := ⟨rfl, rfl, rfl, Nat.le_refl _, fun _ _ => rfl⟩
  have e1 : (W.drewN nq).cell? ⟨bt, 0, none⟩ = _ := r1
  have e2 : (W.drewN nq).cell? ⟨gt, j, none⟩ = _ := r2
  have e3 : (W.drewN nq).frozen? ⟨gt, j, none⟩ = _ := r3
  have e4 : (W.drewN nq).cell? ⟨b1, 1, none⟩ = _ := q1
  have HC := Lib.hid (HB.out.1.trans (hBW.mono (by have := HB.out.1.size; rw [HBS.out] at *; exact this)))
  clear q0 q1 q2 r0 r1 r2 r3 r4 r5 hBW
  generalize W.drewN nq = W2 at e1 e2 e3 e4 HC ⊢
  have s1 : (W2.setCell ⟨gt, j, none⟩ (.int .i64 1)).cell? ⟨bt, 0, none⟩ = _ := (World.cell?_setCell_other _ _ _ _ (fun e => HB.out.2.2 (congrArg Addr.block e).symm)).trans e1
  have s2 : (W2.setCell ⟨gt, j, none⟩ (.int .i64 1)).cell? ⟨gt, j, none⟩ = _ := World.cell?_setCell_same _ _ _ e2
  have s3 : (W2.setCell ⟨gt, j, none⟩ (.int .i64 1)).cell? ⟨b1, 1, none⟩ = _ := (World.cell?_setCell_other _ _ _ _ (fun e => by have h := congrArg Addr.block e; have h1 := HB.out.2.1; have h2 := HBS.out; simp only at h; omega)).trans e4
  go_wp2_with fail
  go_ret
  exact ⟨rfl, W2, HC.out, rfl⟩

end Go.Proofs.Ytalfhcmccdnajaa
