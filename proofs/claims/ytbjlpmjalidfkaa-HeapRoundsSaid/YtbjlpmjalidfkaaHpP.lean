/- The document's heap, new; the class that a size goes into; how many words it takes. -/
import Derived.Test.YtbjlpmjalidfkaaHpL
import Derived.Test.YtbjlpmjalidfkaaExV
namespace Go.Proofs.Ytbjlpmjalidfkaa
open Go.RowKit

theorem Try.info_rring : (Try.prog.info? 85).map (fun i => (i.zero, i.size, i.bytes)) = some (some (.agg #[.slice none 0 0, .slice none 0 0, .slice none 0 0, .slice none 0 0, .int .i64 0]), 5, 104) := by kernel_rfl

/-- The document's heap, as far as Round asks. -/
def RHeap (W : World) (q : Nat) (a0 : Option Addr) (len cap : Nat) : Prop := W.cell? ⟨q, 6, none⟩ = some (.slice a0 len cap)

set_option maxHeartbeats 4000000 in
set_option maxRecDepth 100000 in
theorem rclass_any (W : World) (q : Nat) (a0 : Option Addr) (len cap : Nat) (v : Nat → Int) (h : RHeap W q a0 len cap) (hs : Sizes W a0 len v) (size : Int) (i : Nat) (hC : Cls v len size i) (hl : len ≤ 100) :
    Calls Try.prog 56 #[.pointer (some ⟨q, 0, none⟩), .int .i64 size] W fun e W' => e = .returned (.int .i64 i) ∧ W' = W := by
  unfold RHeap at h
  have HS := Lib.hid hs
  have HC := Lib.hid hC
  have le := hC.le
  clear hs hC
  go_enter Try.func56, Try.ntmps56
  go_wp2_with fail
  go_loopw [5] (fun s5 wr => ∃ j : Nat, j ≤ i ∧ s5 = .int .i64 j ∧ wr = W) (fun s5 _ => len - (intOf s5).toNat)
  case atStart => exact ⟨0, Nat.zero_le _, rfl, rfl⟩
  case round =>
    obtain ⟨j, hj, rfl, rfl⟩ := hrel
    by_cases hlt : j < len
    · have hlt' : (j : Int) < (len : Int) := by omega
      obtain ⟨b, off, rfl, hb, hc⟩ := HS.out (by omega)
      have c := hc j hlt
      clear hc hb
      by_cases e : j = i
      · subst e
        have g1 := HC.out.fits hlt
        have e1 : decide (v j < size) = false := decide_eq_false (by omega)
        go_wp2_with fail
        go_ret
        exact ⟨rfl, rfl⟩
      · have g1 := HC.out.low j (by omega)
        have e1 : decide (v j < size) = true := decide_eq_true g1
        go_wp2_with fail
        exact ⟨⟨j + 1, by omega, by go_num, by first | rfl | trivial⟩, by simp [intOf]; omega⟩
    · obtain rfl : j = len := by omega
      obtain rfl : j = i := by omega
      go_wp2_with fail
      go_ret
      exact ⟨rfl, rfl⟩

set_option maxHeartbeats 4000000 in
set_option maxRecDepth 100000 in
theorem rround_in (W : World) (q : Nat) (a0 : Option Addr) (len cap : Nat) (v : Nat → Int) (h : RHeap W q a0 len cap) (hs : Sizes W a0 len v) (size : Int) (i : Nat) (hC : Cls v len size i) (hl : len ≤ 100) (hi : i < len) (hv : 1 ≤ v i ∧ v i ≤ 24) :
    Calls Try.prog 20 #[.pointer (some ⟨q, 0, none⟩), .int .i64 size] W fun e W' => e = .returned (.int .i64 (v i + 3)) ∧ W' = W := by
  have H1 := Lib.hid (rclass_any W q a0 len cap v h hs size i hC hl)
  unfold RHeap at h
  obtain ⟨b, off, rfl, hb, hc⟩ := hs (by omega)
  have c := hc i hi
  have e1 : IntKind.i64.wrap (v i + 3) = v i + 3 := by rw [IntKind.wrap_i64]; omega
  have hi' : (i : Int) < (len : Int) := by omega
  clear hc hb hs hC
  go_enter Try.func20, Try.ntmps20
  go_wp2_with fail
  refine H1.out.mono ?_
  rintro e w2 ⟨rfl, rfl⟩
  clear H1
  go_wp2_with fail
  go_ret
  exact ⟨rfl, rfl⟩

set_option maxHeartbeats 4000000 in
set_option maxRecDepth 100000 in
theorem rround_out (W : World) (q : Nat) (a0 : Option Addr) (len cap : Nat) (v : Nat → Int) (h : RHeap W q a0 len cap) (hs : Sizes W a0 len v) (size : Int) (hz : 0 ≤ size ∧ size ≤ 100000) (hC : Cls v len size len) (hl : len ≤ 100) :
    Calls Try.prog 20 #[.pointer (some ⟨q, 0, none⟩), .int .i64 size] W fun e W' => e = .returned (.int .i64 (size + 3)) ∧ W' = W := by
  have H1 := Lib.hid (rclass_any W q a0 len cap v h hs size len hC hl)
  unfold RHeap at h
  have e1 : IntKind.i64.wrap (size + 3) = size + 3 := by rw [IntKind.wrap_i64]; omega
  clear hs hC
  go_enter Try.func20, Try.ntmps20
  go_wp2_with fail
  refine H1.out.mono ?_
  rintro e w2 ⟨rfl, rfl⟩
  clear H1
  go_wp2_with fail
  go_ret
  exact ⟨rfl, rfl⟩

/-- The document's rings' cells, i of them. -/
def flatR (words : Int) : Nat → List Value
  | 0 => []
  | i + 1 => flatR words i ++ [.slice none 0 0, .slice none 0 0, .slice none 0 0, .slice none 0 0, .int .i64 words]

/-- What the document's New leaves. -/
def RBorn (a0 : Option Addr) (len cap : Nat) (w : World) (e : Ending) (w' : World) : Prop :=
  ∃ q, e = .returned (.pointer (some ⟨q, 0, none⟩)) ∧ RHeap w' q a0 len cap ∧ Below w.heap.size w w' ∧ w.heap.size ≤ q

/-- In the midst of the document's New. -/
structure RIn (P Q : Nat) (words large : Int) (a0 : Option Addr) (len cap i : Nat) (vv : Value) (w W : World) : Prop where
  p0 : W.cell? ⟨P, 0, none⟩ = some (.int .i64 words)
  p1 : W.cell? ⟨P, 1, none⟩ = some (.int .i64 large)
  p6 : W.cell? ⟨P, 6, none⟩ = some (.slice a0 len cap)
  q6 : W.cell? ⟨Q, 6, none⟩ = some (.slice a0 len cap)
  q8 : W.cell? ⟨Q, 8, none⟩ = some vv
  q9 : W.cell? ⟨Q, 9, none⟩ = some (.pointer none)
  fz : ∀ j, W.frozen? ⟨Q, j, none⟩ = false
  own : W.ownsRow (Q + 1) 85 5 vv i (flatR words i)
  below : Below w.heap.size w W
  size : Q + 1 ≤ W.heap.size
theorem RIn.step {P Q : Nat} {words large : Int} {a0 : Option Addr} {len cap i : Nat} {vv : Value} {w W W7 w9 : World} {g9 cap9 : Nat} (h : RIn P Q words large a0 len cap i vv w W) (hP : P < Q) (hQ : w.heap.size ≤ Q) (hb : Below W.heap.size W W7)
    (o1 : w9.ownsRow (Q + 1) 85 5 (.slice (some ⟨g9, 0, none⟩) (i + 1) cap9) (i + 1) (flatR words i ++ [.slice none 0 0, .slice none 0 0, .slice none 0 0, .slice none 0 0, .int .i64 words])) (o2 : W7.grownBy w9 vv.ownBlock) :
    RIn P Q words large a0 len cap (i + 1) (.slice (some ⟨g9, 0, none⟩) (i + 1) cap9) w (w9.setCell ⟨Q, 8, none⟩ (.slice (some ⟨g9, 0, none⟩) (i + 1) cap9)) := by
  have z := h.size
  have z7 := hb.size
  have z9 := o2.size
  have hlo : ∀ j, vv.ownBlock = some j → Q + 1 ≤ j := fun j hj => (h.own.lt j hj).1
  have hk : ∀ b, b ≤ Q → w9.heap[b]? = W.heap[b]? := fun b hb1 => (o2.block b (by omega) (fun e => by have := hlo b e.symm; omega)).trans (hb.block b (by omega))
  have oP : ∀ j v, W.cell? ⟨P, j, none⟩ = some v → (w9.setCell ⟨Q, 8, none⟩ (.slice (some ⟨g9, 0, none⟩) (i + 1) cap9)).cell? ⟨P, j, none⟩ = some v := fun j v hv =>
    (World.cell?_setCell_other _ _ _ _ (fun e => by have := congrArg Addr.block e; simp only at this; omega)).trans ((World.cell?_of_block (w := W) (hk P (by omega))).trans hv)
  have oQ : ∀ j v, j ≠ 8 → W.cell? ⟨Q, j, none⟩ = some v → (w9.setCell ⟨Q, 8, none⟩ (.slice (some ⟨g9, 0, none⟩) (i + 1) cap9)).cell? ⟨Q, j, none⟩ = some v := fun j v hj hv =>
    (World.cell?_setCell_other _ _ _ _ (fun e => hj (by cases e; rfl))).trans ((World.cell?_of_block (w := W) (hk Q (Nat.le_refl _))).trans hv)
  refine ⟨oP _ _ h.p0, oP _ _ h.p1, oP _ _ h.p6, oQ _ _ (by omega) h.q6, World.cell?_setCell_same _ _ _ ((World.cell?_of_block (w := W) (hk Q (Nat.le_refl _))).trans h.q8), oQ _ _ (by omega) h.q9, fun j => (World.frozen?_setCell _ _ _ _).trans ((World.frozen?_of_block (w := W) (hk Q (Nat.le_refl _))).trans (h.fz j)), ?_, ?_, by simp [World.setCell]; omega⟩
  · refine ⟨o1.1, ?_⟩
    rcases o1.2 with ⟨e1, _⟩ | ⟨gg, cc, cur, e1, e2, e3, e4⟩
    · cases e1
    · cases e1
      exact Or.inr ⟨g9, cap9, cur, rfl, e2, (Below.heap_setCell _ _ _ _ (by simp only; omega)).trans e3, e4⟩
  · exact ((onB' h.below hb).grown o2 (by have := h.below.size; omega) (fun j hj => by have := hlo j hj; omega)).setCell hQ _

set_option maxHeartbeats 8000000 in
set_option maxRecDepth 100000 in
theorem rheap_new (words large x2 x3 x4 x5 : Int) (a0 : Option Addr) (len cap : Nat) (w : World) (h1 : 1 ≤ words) (h2 : words ≤ 300) (h3 : 0 ≤ large) (h4 : large < words) (hl : len ≤ 6) :
    Calls Try.prog 19 #[.agg #[.int .i64 words, .int .i64 large, .int .i64 x2, .int .i64 x3, .int .i64 x4, .int .i64 x5, .slice a0 len cap]] w (RBorn a0 len cap w) := by
  have hmk : ∀ W, (Instr.makeMap 104 none).run Try.prog W = .ok (.map (some W.heap.size)) (W.alloc (.map #[] 0)) := fun W => rfl
  have hI : ∃ W, W = ((w.alloc (.cells #[.int .i64 words, .int .i64 large, .int .i64 x2, .int .i64 x3, .int .i64 x4, .int .i64 x5, .slice a0 len cap] 44)).alloc (.map #[] 0)).alloc (.cells #[.int .i64 words, .int .i64 large, .int .i64 x2, .int .i64 x3, .int .i64 x4, .int .i64 x5, .slice a0 len cap, .map (some (w.heap.size + 1)), .slice none 0 0, .pointer none, .int .i64 1, .int .i64 0] 108) ∧
      RIn w.heap.size (w.heap.size + 1 + 1) words large a0 len cap 0 (.slice none 0 0) w W := by
    refine ⟨_, rfl, by simp [go_sem], by simp [go_sem], by simp [go_sem], by simp [go_sem], by simp [go_sem], by simp [go_sem], fun j => by simp [go_sem], World.ownsRow_nil _ _ _ _, (((Below.refl _ _).alloc (Nat.le_refl _) _).alloc (by simp) _).alloc (by simp; omega) _, by simp⟩
  obtain ⟨W, hW, hI⟩ := hI
  go_enter Try.func19, Try.ntmps19
  go_wp2_with fail
  rw [← hW]
  have HI := Lib.hid hI
  have hQ : w.heap.size + 1 ≤ w.heap.size + 1 + 1 := by omega
  obtain ⟨Q, hQe⟩ : ∃ Q, w.heap.size + 1 + 1 = Q := ⟨_, rfl⟩
  rw [hQe] at HI ⊢
  have hPQ : w.heap.size < Q := by omega
  clear hW hI hQ hQe
  go_loopw [4] (fun s4 wr => ∃ (i : Nat) (vv : Value), i ≤ len + 1 ∧ s4 = .int .i64 i ∧ RIn w.heap.size Q words large a0 len cap i vv w wr) (fun s4 _ => len + 1 - (intOf s4).toNat)
  case atStart => exact ⟨0, _, Nat.zero_le _, rfl, HI.out⟩
  case round =>
    clear HI
    obtain ⟨i, vv, hi, rfl, hR⟩ := hrel
    have HR := Lib.hid hR
    have p0 := hR.p0
    have p1 := hR.p1
    have p6 := hR.p6
    have q8 := hR.q8
    clear hR
    by_cases hlt : i ≤ len
    · have hlt' : (i : Int) ≤ (len : Int) := by omega
      obtain ⟨i0, hi0, hz0, hzs, hzb⟩ := info_parts Try.info_rring
      have hb7 : Below wr.heap.size wr (wr.alloc (.cells #[.slice none 0 0, .slice none 0 0, .slice none 0 0, .slice none 0 0, .int .i64 words] 85)) := (Below.refl wr.heap.size wr).alloc (Nat.le_refl _) _
      have hown7 : (wr.alloc (.cells #[.slice none 0 0, .slice none 0 0, .slice none 0 0, .slice none 0 0, .int .i64 words] 85)).ownsRow (Q + 1) 85 5 vv i (flatR words i) := by
        refine ⟨HR.out.own.1, ?_⟩
        rcases HR.out.own.2 with e | ⟨g, cc, cur, e1, e2, e3, e4⟩
        · exact Or.inl e
        · have hg : g < wr.heap.size := by
            rcases Nat.lt_or_ge g wr.heap.size with h' | h'
            · exact h'
            · rw [Array.getElem?_eq_none h'] at e3; cases e3
          exact Or.inr ⟨g, cc, cur, e1, e2, (hb7.block g hg).trans e3, e4⟩
      have hlo : ∀ j, vv.ownBlock = some j → Q + 1 ≤ j := fun j hj => (HR.out.own.lt j hj).1
      have hne : some Q ≠ vv.ownBlock := fun e => by have := hlo Q e.symm; omega
      have q87 := later' hb7 q8
      have z7 : (wr.alloc (.cells #[.slice none 0 0, .slice none 0 0, .slice none 0 0, .slice none 0 0, .int .i64 words] 85)).frozen? ⟨Q, 8, none⟩ = false := (World.frozen?_of_block (w := wr) (hb7.block Q (by have := HR.out.size; omega))).trans (HR.out.fz 8)
      have hsz := HR.out.size
      go_wp2_with fail
      go_region_law (refine step_append_lies _ rfl _ _ 105 rfl (Q + 1) 85 i0 (.agg #[.slice none 0 0, .slice none 0 0, .slice none 0 0, .slice none 0 0, .int .i64 0]) 5 104 Try.underlying105 hi0 hz0 hzs hzb rfl (by decide) vv i (flatR words i) rfl hown7 ⟨wr.heap.size, 0, none⟩ 1 1 [.slice none 0 0, .slice none 0 0, .slice none 0 0, .slice none 0 0, .int .i64 words] rfl rfl (World.news_of_block (heap_alloc_new _ _)) (by intro u hu; simp at hu; rcases hu with rfl | rfl <;> rfl) (by decide) (by unfold maxLen; omega) (by omega) (by simp [World.drew]; omega) _ rfl ?_; intro g9 cap9 w9 o1 o2 o3 o4; have q89 := o2.cell q87 (by simpa using hne); have z89 := (o2.frozen_far ⟨Q, 8, none⟩ (World.block_lt_of_cell? _ _ q87) (by simpa using hne)).trans z7)
      all_goals go_wp2_with fail
      all_goals exact ⟨⟨i + 1, _, by omega, by go_num, HR.out.step hPQ (by omega) hb7.drew o1 o2⟩, by simp [intOf]; omega⟩
    · obtain rfl : i = len + 1 := by omega
      have ew : IntKind.i64.wrap (words - large) = words - large := by rw [IntKind.wrap_i64]; omega
      have q9 := HR.out.q9
      have z9 := HR.out.fz 9
      go_wp2_with fail
      refine (Ex.rnew_in (words - large) large wr (by omega) (by omega) h3 (by omega)).mono ?_
      rintro e w5 ⟨pr, dr, ar, cr, rfl, -, hb5, -, -⟩
      have q95 := later' hb5 q9
      have z95 := (World.frozen?_of_block (w := wr) (hb5.block Q (by have := HR.out.size; omega))).trans z9
      have q65 := later' hb5 HR.out.q6
      have HB5 := Lib.hid (onB' HR.out.below hb5)
      clear hb5 q9 z9
      go_wp2_with fail
      go_ret
      exact ⟨Q, rfl, (World.cell?_setCell_other _ _ _ _ (by simp)).trans q65, HB5.out.setCell (by simp only; omega) _, by omega⟩

end Go.Proofs.Ytbjlpmjalidfkaa
