/- A new heap. -/
import Derived.Test.YtbjlpmjalidfkaaHpB
import Derived.Deep.AppendLies
import Derived.Deep.RegionLaw
namespace Go.Proofs.Ytbjlpmjalidfkaa
open Go.RowKit

theorem Try.info_class : (Try.prog.info? 101).map (fun i => (i.zero, i.size, i.bytes)) = some (some (.agg #[.int .i64 0, .pointer none]), 2, 16) := by kernel_rfl

theorem step_wanted {P : Program} {ops : Array Oper} {o : Oper} {a : Act} {w : World} {K : Act → World → Prop} {Q : Exit → Act → World → Prop} {E : Prop} (hg : o.guard = none) (h : Oper.wp P o a w K Q) :
    if Region.wanted o (yielded ops a.tmps) = true then Oper.wp P o a w K Q else E := by
  have hw : Region.wanted o (yielded ops a.tmps) = true := by simp [Region.wanted, hg]
  rw [if_pos hw]
  exact h

/-- The classes' cells, the first i of them. -/
def flatC (x : HSpot) : Nat → List Value
  | 0 => []
  | i + 1 => flatC x i ++ [.int .i64 (x.sz i), .pointer (some ⟨(x.S i).r, 0, none⟩)]
theorem flatC_length (x : HSpot) (i : Nat) : (flatC x i).length = i * 2 := by
  induction i with
  | zero => rfl
  | succ i ih => simp only [flatC, List.length_append, ih, List.length_cons, List.length_nil]; omega
theorem flatC_get (x : HSpot) {i j : Nat} (h : j < i) : (flatC x i)[j * 2]? = some (.int .i64 (x.sz j)) ∧ (flatC x i)[j * 2 + 1]? = some (.pointer (some ⟨(x.S j).r, 0, none⟩)) := by
  induction i with
  | zero => omega
  | succ i ih =>
    have hl := flatC_length x i
    by_cases e : j = i
    · subst e
      simp only [flatC]
      rw [List.getElem?_append_right (by omega), List.getElem?_append_right (by omega), hl, Nat.sub_self, Nat.add_sub_cancel_left]
      exact ⟨rfl, rfl⟩
    · obtain ⟨h1, h2⟩ := ih (by omega)
      simp only [flatC]
      rw [List.getElem?_append_left (by omega), List.getElem?_append_left (by omega)]
      exact ⟨h1, h2⟩
theorem flatC_same {x y : HSpot} (hs : x.sz = y.sz) {i : Nat} (h : ∀ j, j < i → x.S j = y.S j) : flatC x i = flatC y i := by
  induction i with
  | zero => rfl
  | succ i ih =>
    simp only [flatC]
    rw [ih fun j hj => h j (by omega), hs, h i (by omega)]

/-- In the midst of New: i classes are there. -/
structure Grown (x : HSpot) (T : Nat → Nat) (i : Nat) (v : Value) (B : Nat) (L : List (Int × Int)) (w : World) : Prop where
  arena : w.cell? ⟨x.h, 0, none⟩ = some (.pointer (some ⟨x.p, 0, none⟩))
  cl : w.cell? ⟨x.h, 1, none⟩ = some v
  large : w.cell? ⟨x.h, 2, none⟩ = some (.pointer (some ⟨(x.S x.k).r, 0, none⟩))
  room : w.cell? ⟨x.h, 3, none⟩ = some (.pointer (some ⟨x.rp, 0, none⟩))
  top : w.cell? ⟨x.h, 4, none⟩ = some (.int .i64 1)
  lim : w.cell? ⟨x.h, 5, none⟩ = some (.int .i64 x.lim)
  par : w.cell? ⟨x.h, 6, none⟩ = some (.int .i64 0)
  fz : ∀ j, w.frozen? ⟨x.h, j, none⟩ = false
  own : w.ownsRow B 101 2 v i (flatC x i)
  rings : ∀ j, j < i ∨ j = x.k → RingD (x.S j) none4 (fun _ => 0) w
  sp : ∀ j, j < i ∨ j = x.k → (x.S j).p = x.p ∧ (x.S j).d = x.d ∧ (x.S j).n = x.n
  th : T x.h = 0
  tc : ∀ b, v.ownBlock = some b → T b = 1
  tp : T x.p = 2
  td : T x.d = 3
  tr : T x.rp = 4
  ts : ∀ j, j < i ∨ j = x.k → ∀ b, (x.S j).Own b → T b = 5 + j
  rm : ∃ g, T g = 4 ∧ Ex.Room w x.rp g x.lim (x.n - x.lim : Int) L
  u : ∃ u, At w x.p x.d x.n (fun _ => 0) u
theorem Grown.done {x : HSpot} {T : Nat → Nat} {v : Value} {B : Nat} {L : List (Int × Int)} {w : World} (h : Grown x T x.k v B L w) (h1 : 1 ≤ x.k) (h6 : x.k ≤ 6) : HLies x T (fun _ => 0) (fun _ => none4) 1 0 L w := by
  obtain ⟨g, hg, hR⟩ := h.rm
  rcases h.own.2 with ⟨_, e⟩ | ⟨cb, cap, cur, rfl, _, hb, _, _, _, ht⟩
  · omega
  · refine ⟨h.arena, h.large, h.room, h.top, h.lim, h.par, h.fz, fun i hi => h.rings i (by omega), fun i hi => h.sp i (by omega), h1, h6, cb, cap, g, ⟨h.th, h.tc cb rfl, h.tp, h.td, h.tr, hg, fun i hi => h.ts i (by omega)⟩, h.cl, fun i hi => ?_, hR⟩
    obtain ⟨g1, g2⟩ := flatC_get x hi
    have hl := flatC_length x x.k
    exact ⟨(World.ownsRow.cellAt h.own (i * 2) (by omega)).trans g1, (World.ownsRow.cellAt h.own (i * 2 + 1) (by omega)).trans g2⟩
theorem Grown.lt {x : HSpot} {T : Nat → Nat} {i : Nat} {v : Value} {B : Nat} {L : List (Int × Int)} {w : World} (h : Grown x T i v B L w) : x.h < w.heap.size ∧ (∀ b, v.ownBlock = some b → b < w.heap.size) := by
  refine ⟨World.block_lt_of_cell? _ _ h.arena, fun b hb => ?_⟩
  rcases h.own.2 with ⟨rfl, _⟩ | ⟨g, cap, cur, rfl, _, hg, _⟩
  · cases hb
  · cases hb
    rcases Nat.lt_or_ge g w.heap.size with h' | h'
    · exact h'
    · rw [Array.getElem?_eq_none h'] at hg; cases hg
theorem Grown.later {x : HSpot} {T : Nat → Nat} {i : Nat} {v : Value} {B : Nat} {L : List (Int × Int)} {w w' : World} (h : Grown x T i v B L w) (hb : Below w.heap.size w w') : Grown x T i v B L w' := by
  obtain ⟨g, hg, hR⟩ := h.rm
  obtain ⟨u, hu⟩ := h.u
  refine ⟨later' hb h.arena, later' hb h.cl, later' hb h.large, later' hb h.room, later' hb h.top, later' hb h.lim, later' hb h.par, fun j => (World.frozen?_of_block (w := w) (hb.block _ h.lt.1)).trans (h.fz j), ?_, fun j hj => (h.rings j hj).later hb, h.sp, h.th, h.tc, h.tp, h.td, h.tr, h.ts, ⟨g, hg, hR.later hb⟩, u, hu.later hb⟩
  refine ⟨h.own.1, ?_⟩
  rcases h.own.2 with h2 | ⟨g, cap, cur, rfl, h1, h2, h3⟩
  · exact Or.inl h2
  · exact Or.inr ⟨g, cap, cur, rfl, h1, (hb.block g (h.lt.2 g rfl)).trans h2, h3⟩

/-- One class more. -/
theorem Grown.step {x : HSpot} {T : Nat → Nat} {i : Nat} {v : Value} {B : Nat} {L : List (Int × Int)} {w W7 w9 : World} {s : Spot} {g9 cap9 : Nat} (h : Grown x T i v B L w) (hik : i < x.k) (hb : Below w.heap.size w W7)
    (hRs : RingD s none4 (fun _ => 0) W7) (hsp : s.p = x.p ∧ s.d = x.d ∧ s.n = x.n) (hown : ∀ b, s.Own b → w.heap.size ≤ b)
    (o1 : w9.ownsRow B 101 2 (.slice (some ⟨g9, 0, none⟩) (i + 1) cap9) (i + 1) (flatC x i ++ [.int .i64 (x.sz i), .pointer (some ⟨s.r, 0, none⟩)])) (o2 : W7.grownBy w9 v.ownBlock) (o3 : v.ownBlock = some g9 ∨ g9 = W7.heap.size) :
    ∃ (x' : HSpot) (T' : Nat → Nat), x'.h = x.h ∧ x'.n = x.n ∧ x'.lim = x.lim ∧ x'.k = x.k ∧ x'.sz = x.sz ∧ x'.p = x.p ∧ Grown x' T' (i + 1) (.slice (some ⟨g9, 0, none⟩) (i + 1) cap9) B L (w9.setCell ⟨x.h, 1, none⟩ (.slice (some ⟨g9, 0, none⟩) (i + 1) cap9)) ∧ (∀ b, b < w.heap.size → T' b = T b) := by
  obtain ⟨lh, lv⟩ := h.lt
  have z7 := hb.size
  have hk : ∀ b, b < w.heap.size → some b ≠ v.ownBlock → w9.heap[b]? = w.heap[b]? := fun b h1 h2 => (o2.block b (by omega) h2).trans (hb.block b h1)
  have nv : ∀ b, T b ≠ 1 → some b ≠ v.ownBlock := fun b hb e => hb (h.tc b e.symm)
  have nh : ∀ b, T b ≠ 0 → b ≠ x.h := fun b hb e => hb (by rw [e]; exact h.th)
  have hS : ∀ b, b ≠ x.h → (w9.setCell ⟨x.h, 1, none⟩ (.slice (some ⟨g9, 0, none⟩) (i + 1) cap9)).heap[b]? = w9.heap[b]? := fun b hb => Below.heap_setCell _ _ _ _ hb
  have sz9 : (w9.setCell ⟨x.h, 1, none⟩ (.slice (some ⟨g9, 0, none⟩) (i + 1) cap9)).heap.size = w9.heap.size := by simp [World.setCell]
  have s9 := o2.size
  have kk : ∀ b, b < w.heap.size → 2 ≤ T b → (w9.setCell ⟨x.h, 1, none⟩ (.slice (some ⟨g9, 0, none⟩) (i + 1) cap9)).heap[b]? = w.heap[b]? := fun b h1 h2 => (hS b (nh b (by omega))).trans (hk b h1 (nv b (by omega)))
  have ch : ∀ (j : Nat) (y : Value), j ≠ 1 → w.cell? ⟨x.h, j, none⟩ = some y → (w9.setCell ⟨x.h, 1, none⟩ (.slice (some ⟨g9, 0, none⟩) (i + 1) cap9)).cell? ⟨x.h, j, none⟩ = some y := fun j y hj hy =>
    (World.cell?_setCell_other _ _ _ _ (fun e => hj (by cases e; rfl))).trans ((World.cell?_of_block (w := w) (hk x.h lh (nv _ (by rw [h.th]; omega)))).trans hy)
  have hg9 : g9 ≠ x.h := by
    rcases o3 with e | e
    · have := h.tc g9 e
      exact nh g9 (by omega)
    · omega
  obtain ⟨u, hu⟩ := h.u
  have lp := hu.lp
  have ld := hu.ld
  have hA : At (w9.setCell ⟨x.h, 1, none⟩ (.slice (some ⟨g9, 0, none⟩) (i + 1) cap9)) x.p x.d x.n (fun _ => 0) u := hu.move (kk _ lp (by rw [h.tp]; omega)) (kk _ ld (by rw [h.td]; omega)) (by rw [sz9]; omega)
  obtain ⟨g, hg, hRm⟩ := h.rm
  have eS : ∀ j, j < i ∨ j = x.k → (if j = i then s else x.S j) = x.S j := fun j hj => if_neg (by omega)
  have eF : flatC { x with S := fun j => if j = i then s else x.S j } i = flatC x i := flatC_same (x := { x with S := fun j => if j = i then s else x.S j }) (y := x) rfl fun j hj => if_neg (by omega)
  refine ⟨{ x with S := fun j => if j = i then s else x.S j }, fun b => if b < w.heap.size then T b else if b < W7.heap.size then 5 + i else 1, rfl, rfl, rfl, rfl, rfl, rfl, ?_, fun b hb => if_pos hb⟩
  refine ⟨ch 0 _ (by omega) h.arena, World.cell?_setCell_same _ _ _ ((World.cell?_of_block (w := w) (hk x.h lh (nv _ (by rw [h.th]; omega)))).trans h.cl), ?_, ch 3 _ (by omega) h.room, ch 4 _ (by omega) h.top, ch 5 _ (by omega) h.lim, ch 6 _ (by omega) h.par,
    fun j => (World.frozen?_setCell _ _ _ _).trans ((World.frozen?_of_block (w := w) (hk x.h lh (nv _ (by rw [h.th]; omega)))).trans (h.fz j)), ?_, ?_, ?_, ?_, ?_, ?_, ?_, ?_, ?_, ?_, u, hA⟩
  · have := ch 2 _ (by omega) h.large
    simpa [eS x.k (Or.inr rfl)] using this
  · have e : flatC { x with S := fun j => if j = i then s else x.S j } (i + 1) = flatC x i ++ [.int .i64 (x.sz i), .pointer (some ⟨s.r, 0, none⟩)] := by
      simp only [flatC, if_true]
      rw [eF]
    rw [e]
    refine ⟨o1.1, ?_⟩
    rcases o1.2 with ⟨h1, _⟩ | ⟨gg, cc, cur, h1, h2, h3, h4⟩
    · cases h1
    · cases h1
      exact Or.inr ⟨g9, cap9, cur, rfl, h2, (hS g9 hg9).trans h3, h4⟩
  · intro j hj
    by_cases e : j = i
    · subst e
      simp only [if_true]
      obtain ⟨e1, e2, e3⟩ := hsp
      refine hRs.anew (by rw [sz9]; omega) (fun b hb => ?_) ⟨u, by rw [e1, e2, e3]; exact hA⟩ (fun _ _ => rfl)
      have hb7 := hRs.under.2.2 b hb
      have hbz := hown b hb
      exact (hS b (by omega)).trans (o2.block b hb7 (fun ee => by have := lv b ee.symm; omega))
    · have hj' : j < i ∨ j = x.k := by
        rcases hj with h1 | h1
        · exact Or.inl (by omega)
        · exact Or.inr h1
      simp only [if_neg e]
      obtain ⟨e1, e2, e3⟩ := h.sp j hj'
      refine (h.rings j hj').anew (by rw [sz9]; omega) (fun b hb => kk b ((h.rings j hj').under.2.2 b hb) (by rw [h.ts j hj' b hb]; omega)) ⟨u, by rw [e1, e2, e3]; exact hA⟩ (fun _ _ => rfl)
  · intro j hj
    by_cases e : j = i
    · subst e
      simpa using hsp
    · simp only [if_neg e]
      exact h.sp j (hj.elim (fun h1 => Or.inl (by omega)) Or.inr)
  · simp [lh, h.th]
  · intro b hb
    cases hb
    rcases o3 with e | e
    · have := lv g9 e
      simp [this, h.tc g9 e]
    · simp only [e]
      rw [if_neg (by omega), if_neg (by omega)]
  · simp [lp, h.tp]
  · simp [ld, h.td]
  · have := hRm.lp
    simp [this, h.tr]
  · intro j hj b hb
    by_cases e : j = i
    · subst e
      simp only [if_true] at hb
      have hb7 := hRs.under.2.2 b hb
      have hbz := hown b hb
      rw [if_neg (by omega), if_pos hb7]
    · have hj' : j < i ∨ j = x.k := by
        rcases hj with h1 | h1
        · exact Or.inl (by omega)
        · exact Or.inr h1
      simp only [if_neg e] at hb
      have := (h.rings j hj').under.2.2 b hb
      simp only [if_pos this]
      exact h.ts j hj' b hb
  · have g1 := hRm.lp
    have g2 := hRm.lg
    exact ⟨g, by simp [g2, hg], hRm.move (kk _ g1 (by rw [h.tr]; omega)) (kk _ g2 (by rw [hg]; omega)) (by rw [sz9]; omega)⟩

/-- What New leaves. -/
def Born (words large : Int) (len : Nat) (v : Nat → Int) (w : World) (e : Ending) (w' : World) : Prop :=
  ∃ (x : HSpot) (T : Nat → Nat), e = .returned (.tuple #[.pointer (some ⟨x.h, 0, none⟩), .int .i64 0]) ∧ (x.n : Int) = words ∧ (x.lim : Int) = words - large ∧ x.k = len ∧ x.sz = v ∧
    HLies x T (fun _ => 0) (fun _ => none4) 1 0 (Ex.whole x.lim (x.n - x.lim : Int)) w' ∧ Below w.heap.size w w' ∧ ∀ b, b < w.heap.size → T b = 1000

set_option maxHeartbeats 16000000 in
set_option maxRecDepth 100000 in
theorem heap_new (words large x2 x3 x4 x5 : Int) (a0 : Option Addr) (len cap : Nat) (v : Nat → Int) (w : World) (hs : Sizes w a0 len v) (hr : RightP words large len v) :
    Calls Try.prog 17 #[.agg #[.int .i64 words, .int .i64 large, .int .i64 x2, .int .i64 x3, .int .i64 x4, .int .i64 x5, .slice a0 len cap]] w (Born words large len v w) := by
  obtain ⟨n, rfl⟩ : ∃ n : Nat, words = n := ⟨words.toNat, by have := hr.w1; omega⟩
  have hb : Below w.heap.size w (w.alloc (.cells #[.int .i64 n, .int .i64 large, .int .i64 x2, .int .i64 x3, .int .i64 x4, .int .i64 x5, .slice a0 len cap] 44)) := (Below.refl _ _).alloc (Nat.le_refl _) _
  have c0 : (w.alloc (.cells #[.int .i64 n, .int .i64 large, .int .i64 x2, .int .i64 x3, .int .i64 x4, .int .i64 x5, .slice a0 len cap] 44)).cell? ⟨w.heap.size, 0, none⟩ = some (.int .i64 n) := by simp [go_sem]
  have c1 : (w.alloc (.cells #[.int .i64 n, .int .i64 large, .int .i64 x2, .int .i64 x3, .int .i64 x4, .int .i64 x5, .slice a0 len cap] 44)).cell? ⟨w.heap.size, 1, none⟩ = some (.int .i64 large) := by simp [go_sem]
  have c6 : (w.alloc (.cells #[.int .i64 n, .int .i64 large, .int .i64 x2, .int .i64 x3, .int .i64 x4, .int .i64 x5, .slice a0 len cap] 44)).cell? ⟨w.heap.size, 6, none⟩ = some (.slice a0 len cap) := by simp [go_sem]
  have HS0 := Lib.hid hs
  have HS := Lib.hid (hs.below hb)
  have HB := Lib.hid hb
  have HR := Lib.hid hr
  have w1 := hr.w1
  have w2 := hr.w2
  have l1 := hr.l1
  have l2 := hr.l2
  have e3 : decide (large < 0) = false := decide_eq_false (by omega)
  have e4 : decide ((n : Int) ≤ large) = false := decide_eq_false (by omega)
  have ew : IntKind.i64.wrap ((n : Int) - large) = (n : Int) - large := by rw [IntKind.wrap_i64]; omega
  clear hs hb hr
  go_enter Try.func17, Try.ntmps17
  go_upto_region 1 with fail
  generalize (w.alloc (.cells #[.int .i64 n, .int .i64 large, .int .i64 x2, .int .i64 x3, .int .i64 x4, .int .i64 x5, .slice a0 len cap] 44)) = W1 at *
  go_wp2_with fail
  refine (rising_in a0 len cap v W1 HS.out HR.out.k1 HR.out.k2 HR.out.rise).mono ?_
  rintro e w' ⟨rfl, rfl⟩
  go_wp2_with fail
  refine (new_in n w1 w2 w').mono ?_
  rintro e W2 ⟨p, d, rfl, hA, hb, q1, q2⟩
  rw [Int.toNat_natCast] at hA
  replace c0 := later' hb c0
  replace c1 := later' hb c1
  replace c6 := later' hb c6
  have HS2 := Lib.hid (HS.out.below hb)
  have HA := Lib.hid hA
  have HBS := Lib.hid (And.intro hb (And.intro q1 q2))
  clear hb hA HS q1 q2
  go_wp2_with fail
  refine (Ex.room_new ((n : Int) - large) large W2 ⟨by omega, by omega⟩ ⟨by omega, by omega⟩).mono ?_
  rintro e W3 ⟨rp, g, rfl, hRm, hb, q1, q2⟩
  replace c6 := later' hb c6
  have HS3 := Lib.hid (HS2.out.below hb)
  have HA3 := Lib.hid (HA.out.later hb)
  have HRm := Lib.hid hRm
  have HBS3 := Lib.hid (And.intro hb (And.intro q1 (And.intro q2 (And.intro hRm.lp hRm.lg))))
  clear hb hRm HS2 q1 q2 c0 c1
  go_wp2_with fail
  refine (ringd_new p d n (fun _ => 0) 0 W3 HA3.out (by omega)).mono ?_
  rintro e W4 ⟨sl, rfl, y1, y2, y3, hRl, hb, q1⟩
  replace c6 := later' hb c6
  have HS4 := Lib.hid (HS3.out.below hb)
  have HA4 := Lib.hid (HA3.out.later hb)
  have HRm4 := Lib.hid (HRm.out.later hb)
  have HRl := Lib.hid (And.intro y1 (And.intro y2 (And.intro y3 (And.intro hRl q1))))
  have HBS4 := Lib.hid hb
  clear hb hRl HS3 q1 y1 y2 y3 HA3 HRm
  go_upto_region 11 with fail
  obtain ⟨m, hm⟩ : ∃ m : Nat, (n : Int) - large = m := ⟨((n : Int) - large).toNat, by omega⟩
  have elg : large = (n : Int) - m := by omega
  rw [hm, elg] at HRm4
  rw [hm] at ew ⊢
  have hb5 : Below W4.heap.size W4 (W4.alloc (.cells #[.pointer (some ⟨p, 0, none⟩), .slice none 0 0, .pointer (some ⟨sl.r, 0, none⟩), .pointer (some ⟨rp, 0, none⟩), .int .i64 1, .int .i64 m, .int .i64 0] 99)) := (Below.refl _ _).alloc (Nat.le_refl _) _
  have HG : Hid (∃ (x : HSpot) (T : Nat → Nat), x.h = W4.heap.size ∧ x.n = n ∧ x.lim = m ∧ x.k = len ∧ x.sz = v ∧ x.p = p ∧ Grown x T 0 (.slice none 0 0) w.heap.size (Ex.whole m ((n : Int) - m)) (W4.alloc (.cells #[.pointer (some ⟨p, 0, none⟩), .slice none 0 0, .pointer (some ⟨sl.r, 0, none⟩), .pointer (some ⟨rp, 0, none⟩), .int .i64 1, .int .i64 m, .int .i64 0] 99)) ∧ ∀ b, b < w.heap.size → T b = 1000) := by
    obtain ⟨y1, y2, y3, hRl, q1⟩ := HRl.out
    obtain ⟨s3, q3, q4, r3p, r3g⟩ := HBS3.out
    obtain ⟨s2, q5, q6⟩ := HBS.out
    have z1 := HB.out.size
    have z2 := s2.size
    have z3 := s3.size
    have z4 := HBS4.out.size
    have ur := hRl.under.2.2
    have up := HA4.out.lp
    have ud := HA4.out.ld
    have une := HA4.out.ne
    have u2p := HA.out.lp
    have u2d := HA.out.ld
    refine ⟨⟨W4.heap.size, p, d, n, len, m, rp, v, fun _ => sl⟩, fun b => if b < w.heap.size then 1000 else if b < W2.heap.size then (if b = p then 2 else if b = d then 3 else 1000) else if b < W3.heap.size then 4 else if b < W4.heap.size then 5 + len else 0, rfl, rfl, rfl, rfl, rfl, rfl, ?_, fun b hb => if_pos hb⟩
    have z5 := hb5.size
    refine ⟨by simp [go_sem], by simp [go_sem], by simp [go_sem], by simp [go_sem], by simp [go_sem], by simp [go_sem], by simp [go_sem], fun j => by simp [go_sem], World.ownsRow_nil _ _ _ _, fun j _ => hRl.later hb5, fun j _ => ⟨y1, y2, y3⟩, ?_, (by intro b hb; cases hb), ?_, ?_, ?_, ?_, ⟨g, ?_, HRm4.out.later hb5⟩, _, HA4.out.later hb5⟩
    · simp only
      rw [if_neg (by omega), if_neg (by omega), if_neg (by omega), if_neg (by omega)]
    · simp only
      rw [if_neg (by omega), if_pos u2p]
      simp
    · simp only
      rw [if_neg (by omega), if_pos u2d, if_neg (Ne.symm une)]
      simp
    · simp only
      rw [if_neg (by omega), if_neg (by omega), if_pos r3p]
    · intro j hj b hb
      simp only at hj hb ⊢
      have h1 := ur b hb
      have h2 := q1 b hb
      obtain rfl : j = len := by omega
      rw [if_neg (by omega), if_neg (by omega), if_neg (by omega), if_pos h1]
    · rw [if_neg (by omega), if_neg (by omega), if_pos r3g]
  have hT := HG.out
  replace c6 := later' hb5 c6
  have HS5 := Lib.hid (HS4.out.below hb5)
  have HB5 := Lib.hid (onB' (onB' (onB' (onB' HB.out HBS.out.1) HBS3.out.1) HBS4.out) hb5)
  generalize (W4.alloc (.cells #[.pointer (some ⟨p, 0, none⟩), .slice none 0 0, .pointer (some ⟨sl.r, 0, none⟩), .pointer (some ⟨rp, 0, none⟩), .int .i64 1, .int .i64 m, .int .i64 0] 99)) = W5 at *
  generalize W4.heap.size = hh at *
  clear HRl HRm4 HA4 HBS HBS3 HBS4 hb5 HA HS4 hT
  obtain ⟨b0, off, rfl, hlb, hcs⟩ := HS0.out HR.out.k1
  have HCS := Lib.hid hcs
  have k2 := HR.out.k2
  clear hcs HS5 HS0
  go_wp2_with fail
  have hn65 : n ≤ 65536 := by omega
  clear e3 e4 ew elg w1 w2 l1 l2 HB
  go_loopw [10, 60] (fun _ s60 wr => ∃ (i : Nat) (x : HSpot) (T : Nat → Nat) (vv : Value), i ≤ len ∧ s60 = .int .i64 i ∧ x.h = hh ∧ x.n = n ∧ x.lim = m ∧ x.k = len ∧ x.sz = v ∧ x.p = p ∧ Grown x T i vv w.heap.size (Ex.whole m ((n : Int) - m)) wr ∧ (∀ b, b < w.heap.size → T b = 1000) ∧ Below w.heap.size w wr) (fun _ s60 _ => len - (intOf s60).toNat)
  case atStart =>
    obtain ⟨x, T, f1, f2, f3, f4, f5, f6, hG, hT⟩ := HG.out
    exact ⟨0, x, T, _, Nat.zero_le _, rfl, f1, f2, f3, f4, f5, f6, hG, hT, HB5.out⟩
  case round =>
    clear HG HB5 c6
    obtain ⟨i, x, T, vv, hi, rfl, f1, f2, f3, f4, f5, f6, hG, hT, hB⟩ := hrel
    have HG := Lib.hid hG
    have HT := Lib.hid hT
    have HB := Lib.hid hB
    clear hG hT hB
    by_cases hlt : i < len
    · have hlt' : (i : Int) < (len : Int) := by omega
      have c := HCS.out i hlt
      replace c := (HB.out.cell (p := ⟨b0, off + i, none⟩) hlb).trans c
      have hdr : Below wr.heap.size wr wr.drew := (Below.refl _ _).drew
      have HGD := Lib.hid (HG.out.later hdr)
      have hcl := HGD.out.cl
      have hfz := HGD.out.fz 1
      rw [f1] at hcl hfz
      obtain ⟨i0, hi0, hz0, hzs, hzb⟩ := info_parts Try.info_class
      have hA := HGD.out.u
      obtain ⟨u, hA⟩ := hA
      rw [f6, f2] at hA
      have HA := Lib.hid hA
      clear hdr hA
      go_wp2_with fail
      have hne : some hh ≠ vv.ownBlock := fun e => by
        have h1 := HG.out.tc _ e.symm
        have h2 := HG.out.th
        rw [f1] at h2
        omega
      have hws := HB.out.size
      have hdz : wr.drew.heap.size = wr.heap.size := rfl
      go_region_law (first
        | (refine step_wanted rfl ?_; go_simp; go_at_call 40; refine (ringd_new p x.d n (fun _ => 0) u wr.drew HA.out (by omega)).mono ?_; rintro e W6 ⟨s, rfl, y1, y2, y3, hRs, hb6, q1⟩; have hb7 : Below W6.heap.size W6 (W6.alloc (.cells #[.int .i64 (v i), .pointer (some ⟨s.r, 0, none⟩)] 101)) := (Below.refl _ _).alloc (Nat.le_refl _) _; have HG7 := Lib.hid ((HGD.out.later hb6).later hb7); have hcl6 := later' hb6 hcl; have hcl7 := later' hb7 hcl6; have hz6 := hb6.size; have hfz7 := HG7.out.fz 1; rw [f1] at hfz7)
        | (refine step_append_lies _ rfl _ _ 97 rfl w.heap.size 101 i0 (.agg #[.int .i64 0, .pointer none]) 2 16 Try.underlying97 hi0 hz0 hzs hzb rfl (by decide) vv i (flatC x i) rfl HG7.out.own ⟨W6.heap.size, 0, none⟩ 1 1 [.int .i64 (v i), .pointer (some ⟨s.r, 0, none⟩)] rfl rfl (World.news_of_block (heap_alloc_new _ _)) (by intro u hu; simp at hu; rcases hu with rfl | rfl <;> rfl) (by decide) (by unfold maxLen; omega) (by omega) (by have := hb7.size; omega) _ rfl ?_; intro g9 cap9 w9 o1 o2 o3 o4; have hcl9 := o2.cell hcl7 (by simpa using hne); have hfz9 := (o2.frozen_far ⟨hh, 1, none⟩ (World.block_lt_of_cell? _ _ hcl7) (by simpa using hne)).trans hfz7))
      all_goals go_wp2_with fail
      all_goals go_roundw
      all_goals first
        | (simp [intOf]; omega)
        | (obtain ⟨x', T', k1, k2', k3, k4, k5, k6, hG', hT'⟩ := HG.out.step (by omega) (onB' (onB' (Below.refl wr.heap.size wr).drew hb6) hb7) (hRs.later hb7) ⟨by rw [y1, f6], y2, by rw [y3, f2]⟩ q1 (by rw [f5]; exact o1) o2 o3
           rw [f1] at hG'
           have hB9 := (onB' HB.out (onB' (onB' (Below.refl wr.heap.size wr).drew hb6) hb7)).grown o2 (by have := hb7.size; omega) (fun b hb => Nat.le_of_not_lt fun hl => by
             have h1 := HT.out b hl
             have h2 := HG.out.tc b hb
             omega)
           exact ⟨i + 1, x', T', _, by omega, by go_num, k1.trans f1, k2'.trans f2, k3.trans f3, k4.trans f4, k5.trans f5, k6.trans f6, hG', fun b hb => (hT' b (by omega)).trans (HT.out b hb), hB9.setCell (Nat.le_of_not_lt fun hl => by
             have h1 := HT.out hh hl
             have h2 := HG.out.th
             rw [f1] at h2
             omega) _⟩)
    · obtain rfl : i = len := by omega
      go_wp2_with fail
      refine bodyPost_ret (v := .tuple #[.pointer (some ⟨hh, 0, none⟩), .int .i64 0]) (by simp [results, Try.results17, go_sem]) rfl ?_
      have hG := HG.out
      subst f4
      have hG' := hG.done (by have := HR.out.k1; omega) (by omega)
      exact ⟨x, T, by rw [f1], by rw [f2], by rw [f3, hm], rfl, f5, by rw [f2, f3]; exact hG', HB.out, HT.out⟩

end Go.Proofs.Ytbjlpmjalidfkaa
