/- The document's ring in the midst of a call: its rows, its answer's place, the act. -/
import Derived.Test.YtbjlpmjalidfkaaRiP
namespace Go.Proofs.Ytbjlpmjalidfkaa
open Go.RowKit Go.Shelf

theorem Row.set {W : World} {lo hi : Nat} {v : Value} {l : List Int} (h : Row W lo hi v l) (b j : Nat) (y : Value) (hb : b < lo ∨ hi ≤ b) : Row (W.setCell ⟨b, j, none⟩ y) lo hi v l :=
  h.same fun c o h1 h2 h3 _ => (Below.heap_setCell _ _ _ _ (by simp only; omega)).trans h3

/-- In the midst of a call of the document's ring: what its four places hold now; the answer's place is as it was laid. -/
structure St (w : World) (q n rb : Nat) (x : Nat → Value) (W : World) : Prop where
  one : One q w W
  cell : ∀ k, k < 4 → W.cell? ⟨q, k, none⟩ = some (x k)
  words : W.cell? ⟨q, 4, none⟩ = some (.int .i64 n)
  fz : ∀ j, W.frozen? ⟨q, j, none⟩ = false
  r0 : W.cell? ⟨rb, 0, none⟩ = some (.int .i64 0)
  r1 : W.cell? ⟨rb, 1, none⟩ = some (.bool false)
  r2 : W.cell? ⟨rb, 2, none⟩ = some (.int .i64 0)
  rz : ∀ j, W.frozen? ⟨rb, j, none⟩ = false
  hq : q < w.heap.size
  hr : w.heap.size ≤ rb

section
variable {w W W' : World} {q n rb : Nat} {x v : Nat → Value} {R R' : Rows}
theorem St.lrb (h : St w q n rb x W) : rb < W.heap.size := World.block_lt_of_cell? _ _ h.r0
theorem St.from (h : St w q n rb x W) {B : Nat} (hb : Below B W W') (hB : rb < B) : St w q n rb x W' := by
  have hq := h.hq
  have hr := h.hr
  have c : ∀ (b j : Nat) (z : Value), b ≤ rb → W.cell? ⟨b, j, none⟩ = some z → W'.cell? ⟨b, j, none⟩ = some z := fun b j z g hz => (hb.cell (p := ⟨b, j, none⟩) (by simp only; omega)).trans hz
  exact ⟨⟨hb.os.trans h.one.os, hb.tape.trans h.one.tape, hb.output.trans h.one.output, Nat.le_trans h.one.size hb.size, fun k g1 g2 => (hb.block k (by omega)).trans (h.one.block k g1 g2)⟩, fun k hk => c _ _ _ (by omega) (h.cell k hk), c _ _ _ (by omega) h.words, fun j => (hb.frozen (p := ⟨q, j, none⟩) (by simp only; omega)).trans (h.fz j), c _ _ _ (Nat.le_refl _) h.r0, c _ _ _ (Nat.le_refl _) h.r1, c _ _ _ (Nat.le_refl _) h.r2, fun j => (hb.frozen (p := ⟨rb, j, none⟩) hB).trans (h.rz j), h.hq, h.hr⟩
theorem St.later (h : St w q n rb x W) (hb : Below W.heap.size W W') : St w q n rb x W' := h.from hb h.lrb
theorem St.put (h : St w q n rb x W) (i : Nat) (hi : i < 4) (y : Value) : St w q n rb (fun k => if k = i then y else x k) (W.setCell ⟨q, i, none⟩ y) := by
  have hqr : q ≠ rb := by have := h.hq; have := h.hr; omega
  have o : ∀ (j : Nat) (z : Value), W.cell? ⟨rb, j, none⟩ = some z → (W.setCell ⟨q, i, none⟩ y).cell? ⟨rb, j, none⟩ = some z := fun j z hz => (World.cell?_setCell_other _ _ _ _ (by simp)).trans hz
  refine ⟨h.one.trans (One.setQ q i y W), fun k hk => ?_, (World.cell?_setCell_other _ _ _ _ (by simp)).trans h.words, fun j => (World.frozen?_setCell _ _ _ _).trans (h.fz j), o _ _ h.r0, o _ _ h.r1, o _ _ h.r2, fun j => (World.frozen?_setCell _ _ _ _).trans (h.rz j), h.hq, h.hr⟩
  by_cases e : k = i
  · subst e
    rw [if_pos rfl]
    exact World.cell?_setCell_same _ _ _ (h.cell k hk)
  · rw [if_neg e]
    exact (World.cell?_setCell_other _ _ _ _ (by simp)).trans (h.cell k hk)

/-- The answer is laid. -/
def tolds (W : World) (rb : Nat) (c : Int) (b : Bool) (e : Int) : World := ((W.setCell ⟨rb, 0, none⟩ (.int .i64 c)).setCell ⟨rb, 1, none⟩ (.bool b)).setCell ⟨rb, 2, none⟩ (.int .i64 e)
theorem St.told (h : St w q n rb x W) (c : Int) (b : Bool) (e : Int) : (tolds W rb c b e).cell? ⟨rb, 0, none⟩ = some (.int .i64 c) ∧ (tolds W rb c b e).cell? ⟨rb, 1, none⟩ = some (.bool b) ∧ (tolds W rb c b e).cell? ⟨rb, 2, none⟩ = some (.int .i64 e) := by
  unfold tolds
  exact ⟨(World.cell?_setCell_other _ _ _ _ (by simp)).trans ((World.cell?_setCell_other _ _ _ _ (by simp)).trans (World.cell?_setCell_same _ _ _ h.r0)),
    (World.cell?_setCell_other _ _ _ _ (by simp)).trans (World.cell?_setCell_same _ _ _ ((World.cell?_setCell_other _ _ _ _ (by simp)).trans h.r1)),
    World.cell?_setCell_same _ _ _ ((World.cell?_setCell_other _ _ _ _ (by simp)).trans ((World.cell?_setCell_other _ _ _ _ (by simp)).trans h.r2))⟩
/-- What it comes to. -/
theorem St.done (h : St w q n rb x W) (hO : Op w q n R v) (c : Int) (b : Bool) (e : Int)
    (hr : ∀ k, k < 4 → (x k = v k ∧ R'.row k = R.row k) ∨ ∃ lo hi, (rb < lo ∨ hi ≤ rb) ∧ q < lo ∧ hi ≤ W.heap.size ∧ Row W lo hi (x k) (R'.row k)) :
    Ref (tolds W rb c b e) q n R' ∧ One q w (tolds W rb c b e) := by
  have hqr : q ≠ rb := by have := h.hq; have := h.hr; omega
  have hs : (tolds W rb c b e).heap.size = W.heap.size := by simp [tolds, World.setCell]
  have hk : ∀ k, k ≠ rb → (tolds W rb c b e).heap[k]? = W.heap[k]? := fun k hk => by
    unfold tolds
    exact (Below.heap_setCell _ _ _ _ hk).trans ((Below.heap_setCell _ _ _ _ hk).trans (Below.heap_setCell _ _ _ _ hk))
  have o : ∀ (j : Nat) (z : Value), W.cell? ⟨q, j, none⟩ = some z → (tolds W rb c b e).cell? ⟨q, j, none⟩ = some z := fun j z hz => (World.cell?_of_block (w := W) (hk q hqr)).trans hz
  have hone : One q w (tolds W rb c b e) := by
    have h1 := h.one
    have h2 := h.hr
    exact ⟨h1.os, h1.tape, h1.output, by rw [hs]; exact h1.size, fun k g1 g2 => (hk k (by omega)).trans (h1.block k g1 g2)⟩
  refine ⟨Op.ref (v := x) ⟨fun k g => o _ _ (h.cell k g), o _ _ h.words, fun j => (World.frozen?_of_block (w := W) (hk q hqr)).trans (h.fz j), fun k g => ?_, Nat.lt_of_lt_of_le h.hq hone.size⟩, hone⟩
  rcases hr k g with ⟨e1, e2⟩ | ⟨lo, hi, g1, g2, g3, g4⟩
  · rw [e1, e2]
    exact ((hO.row k g).same fun b o g1 g2 g3 _ => (hone.block b g2 (by omega)).trans g3).mono (Nat.le_refl _) hone.size
  · refine (g4.same fun b o a1 a2 a3 _ => (hk b (by omega)).trans a3).mono (by omega) (by rw [hs]; exact g3)
end

/-- An act, as it lies. -/
def ActAt (W : World) (ab : Nat) (K N : Int) : Prop := W.cell? ⟨ab, 0, none⟩ = some (.int .i64 K) ∧ W.cell? ⟨ab, 1, none⟩ = some (.int .i64 N)
theorem ActAt.later {W W' : World} {ab : Nat} {K N : Int} (h : ActAt W ab K N) (hb : Below W.heap.size W W') : ActAt W' ab K N := ⟨later' hb h.1, later' hb h.2⟩
theorem ActAt.set {W : World} {ab b j : Nat} {K N : Int} {y : Value} (h : ActAt W ab K N) (hb : b ≠ ab) : ActAt (W.setCell ⟨b, j, none⟩ y) ab K N :=
  ⟨(World.cell?_setCell_other _ _ _ _ (by simp)).trans h.1, (World.cell?_setCell_other _ _ _ _ (by simp)).trans h.2⟩

theorem list_len {R : Rows} (hs : R.all.length ≤ 1000) (k : Nat) : (R.row k).length ≤ 1000 := by
  obtain ⟨h0, h1, h2, h3⟩ := all_le hs
  match k with
  | 0 => exact h0
  | 1 => exact h1
  | 2 => exact h2
  | _ + 3 => exact h3

def told (c : Int) (b : Bool) (e : Int) : Value := .agg #[.int .i64 c, .bool b, .int .i64 e]

set_option maxHeartbeats 4000000 in
theorem rgrow_out (w : World) (q n : Nat) (R : Rows) (hR : Ref w q n R) (c : Int) (ho : ¬ Rng n c) (hn : n ≤ 65536) :
    Calls Try.prog 48 #[.pointer (some ⟨q, 0, none⟩), .int .i64 c] w fun e w' => e = .returned (told 0 false 1) ∧ Ref w' q n R ∧ One q w w' := by
  unfold Rng at ho
  have hb := (Below.refl w.heap.size w).alloc (Nat.le_refl _) (.cells #[.int .i64 0, .bool false, .int .i64 1] 34)
  have HE := Lib.hid (And.intro (hR.later hb) (One.of_below (q := q) hb))
  have hw : IntKind.i64.wrap ((n : Int) - 3) = (n : Int) - 3 := by rw [IntKind.wrap_i64]; omega
  obtain ⟨v, hO⟩ := hR.op
  have c4 := hO.words
  have lq := hO.lq
  have hne : q ≠ w.heap.size := by omega
  clear hb hO hR
  by_cases g : c < 1
  · have g' : decide (c < 1) = true := decide_eq_true g
    go_enter Try.func48, Try.ntmps48
    go_wp2_with fail
    exact bodyPost_ret (v := told 0 false 1) (by simp [told, results, Try.results48, go_sem]) rfl ⟨rfl, HE.out⟩
  · have g' : decide (c < 1) = false := decide_eq_false g
    have g3 : decide ((n : Int) - 3 < c) = true := decide_eq_true (by omega)
    go_enter Try.func48, Try.ntmps48
    go_wp2_with fail
    exact bodyPost_ret (v := told 0 false 1) (by simp [told, results, Try.results48, go_sem]) rfl ⟨rfl, HE.out⟩

set_option maxHeartbeats 4000000 in
theorem rgrow_in (w : World) (q n : Nat) (R : Rows) (hR : Ref w q n R) (c : Int) (hc : Rng n c) (hn : n ≤ 65536) (hs : R.all.length ≤ 1000) :
    Calls Try.prog 48 #[.pointer (some ⟨q, 0, none⟩), .int .i64 c] w fun e w' => e = .returned (told 0 false 0) ∧ Ref w' q n (R.grow c) ∧ One q w w' := by
  obtain ⟨v, hO⟩ := hR.op
  obtain ⟨h1, h2⟩ := hc
  have g' : decide (c < 1) = false := decide_eq_false (by omega)
  have g3 : decide ((n : Int) - 3 < c) = false := decide_eq_false (by omega)
  have hw : IntKind.i64.wrap ((n : Int) - 3) = (n : Int) - 3 := by rw [IntKind.wrap_i64]; omega
  have hl := (all_le hs).1
  have lq := hO.lq
  have hne : q ≠ w.heap.size := by omega
  have hb : Below w.heap.size w ((w.alloc (.cells #[.int .i64 0, .bool false, .int .i64 0] 34)).alloc (.cells #[.int .i64 c] 3)) := ((Below.refl _ _).alloc (Nat.le_refl _) _).alloc (by simp) _
  have hst : St w q n w.heap.size v ((w.alloc (.cells #[.int .i64 0, .bool false, .int .i64 0] 34)).alloc (.cells #[.int .i64 c] 3)) :=
    ⟨One.of_below hb, fun k hk => later' hb (hO.cell k hk), later' hb hO.words, fun j => (hb.frozen lq).trans (hO.fz j), by simp [go_sem], by simp [go_sem], by simp [go_sem], fun j => by simp [go_sem], lq, Nat.le_refl _⟩
  have hown : ((w.alloc (.cells #[.int .i64 0, .bool false, .int .i64 0] 34)).alloc (.cells #[.int .i64 c] 3)).ownsRow (w.heap.size + 1) 3 1 (.slice (some ⟨w.heap.size + 1, 0, none⟩) 1 1) 1 ([c].map (.int .i64)) := by
    have := World.ownsRow_lit (base := w.heap.size + 1) (e := 3) (size := 1) (w.alloc (.cells #[.int .i64 0, .bool false, .int .i64 0] 34)) #[.int .i64 c] 1 (by simp) (by decide) rfl
    rw [World.size_alloc] at this
    exact this
  have hsrc := ((hO.row 0 (by decide)).below hb (Nat.le_refl _)).src
  obtain ⟨a0, s0, e0, -⟩ := hO.row 0 (by decide)
  have c0 : w.cell? ⟨q, 0, none⟩ = some (v 0) := hO.cell 0 (by decide)
  have c4 := hO.words
  rw [e0] at c0
  have hz0 := hO.fz 0
  rw [e0] at hsrc
  have hb3 : w.heap.size + 1 ≤ ((w.alloc (.cells #[.int .i64 0, .bool false, .int .i64 0] 34)).alloc (.cells #[.int .i64 c] 3)).heap.size := by simp
  have HS := Lib.hid (And.intro hst (And.intro hown (And.intro hsrc hb3)))
  have HO := Lib.hid hO
  change w.cell? ⟨q, 0, none⟩ = some (.slice a0 R.white.length (R.white.length + s0)) at c0
  clear hst hown hsrc hO hb hR hb3
  go_enter Try.func48, Try.ntmps48
  go_wp2_with (at_builtin; refine list_onto rfl (.tmp 19) (.tmp 24) rfl _ (w.heap.size + 1) 1 _ [c] rfl HS.out.2.1 _ R.white rfl HS.out.2.2.1 (R.white.length + 1) ?b1 ?b2 ?b3 ?_; (case b1 => omega); (case b2 => omega); (case b3 => exact HS.out.2.2.2); intro ao1 cap1 w1 hown1 hgr1; have hb1 := below_onto (Below.refl (w.heap.size + 1) _) HS.out.2.1 HS.out.2.2.2 hgr1; have hst1 := HS.out.1.from hb1 (Nat.lt_succ_self _); have q0 := hst1.cell 0 (by decide); rw [e0] at q0; have q1 := hst1.fz 0; have q2 := hst1.r0; have q3 := hst1.r1; have q4 := hst1.r2; have q5 := hst1.rz 0; have q6 := hst1.rz 1; have q7 := hst1.rz 2; have HT := Lib.hid (And.intro hst1 (And.intro (Row.of_own hown1) hb1)); clear hst1 hown1 hgr1 hb1)
  have hS := HT.out.1.put 0 (by decide) (.slice ao1 (R.white.length + 1) cap1)
  have hd := hS.done (R' := R.grow c) HO.out 0 false 0 (fun k hk => by
    by_cases e : k = 0
    · subst e
      exact Or.inr ⟨w.heap.size + 1, w1.heap.size, Or.inl (Nat.lt_succ_self _), by omega, by simp [World.setCell], by rw [if_pos rfl]; exact HT.out.2.1.set _ _ _ (Or.inl (by omega))⟩
    · refine Or.inl ⟨if_neg e, ?_⟩
      obtain rfl | rfl | rfl : k = 1 ∨ k = 2 ∨ k = 3 := by omega
      all_goals rfl)
  obtain ⟨t0, t1, t2⟩ := hS.told 0 false 0
  unfold tolds at hd t0 t1 t2
  exact bodyPost_ret (v := told 0 false 0) (by simp [told, results, Try.results48, go_sem, t0, t1, t2]) rfl ⟨rfl, hd⟩

end Go.Proofs.Ytbjlpmjalidfkaa
