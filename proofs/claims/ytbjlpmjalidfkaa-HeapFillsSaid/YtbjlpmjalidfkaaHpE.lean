/- A cell is taken. -/
import Derived.Test.YtbjlpmjalidfkaaHpD
namespace Go.Proofs.Ytbjlpmjalidfkaa
open Go.RowKit

/-- A heap's fields turn. -/
theorem HLies.setTop {x : HSpot} {T : Nat → Nat} {D : Nat → Int} {R : Nat → Rows} {top par : Int} {L : List (Int × Int)} {w : World} (h : HLies x T D R top par L w) (t : Int) :
    HLies x T D R t par L (w.setCell ⟨x.h, 4, none⟩ (.int .i64 t)) ∧ HTurn T T w (w.setCell ⟨x.h, 4, none⟩ (.int .i64 t)) := by
  obtain ⟨cb, cap, g, hT, hc, hcs, hR⟩ := h.rest
  obtain ⟨u, hu⟩ := h.at
  have hS : ∀ b, T b ≠ 0 → (w.setCell ⟨x.h, 4, none⟩ (.int .i64 t)).heap[b]? = w.heap[b]? := fun b hb => Below.heap_setCell _ _ _ _ (fun e => hb (by rw [e]; exact hT.h))
  have o : ∀ (j : Nat) (v : Value), j ≠ 4 → w.cell? ⟨x.h, j, none⟩ = some v → (w.setCell ⟨x.h, 4, none⟩ (.int .i64 t)).cell? ⟨x.h, j, none⟩ = some v := fun j v hj hv => (World.cell?_setCell_other _ _ _ _ (fun e => hj (by cases e; rfl))).trans hv
  have sz : (w.setCell ⟨x.h, 4, none⟩ (.int .i64 t)).heap.size = w.heap.size := by simp [World.setCell]
  have oc : ∀ (b j : Nat) (v : Value), T b ≠ 0 → w.cell? ⟨b, j, none⟩ = some v → (w.setCell ⟨x.h, 4, none⟩ (.int .i64 t)).cell? ⟨b, j, none⟩ = some v := fun b j v hb hv => (World.cell?_of_block (w := w) (hS b hb)).trans hv
  have hA : At (w.setCell ⟨x.h, 4, none⟩ (.int .i64 t)) x.p x.d x.n D u := hu.move (hS _ (by rw [hT.p]; omega)) (hS _ (by rw [hT.d]; omega)) (by rw [sz]; omega)
  refine ⟨⟨o 0 _ (by omega) h.arena, o 2 _ (by omega) h.large, o 3 _ (by omega) h.room, World.cell?_setCell_same _ _ _ h.top, o 5 _ (by omega) h.lim, o 6 _ (by omega) h.par, fun j => (World.frozen?_setCell _ _ _ _).trans (h.fz j), fun i hi => ?_, h.sp, h.k1, h.k6,
    cb, cap, g, hT, o 1 _ (by omega) hc, fun i hi => ⟨oc _ _ _ (by rw [hT.cb]; omega) (hcs i hi).1, oc _ _ _ (by rw [hT.cb]; omega) (hcs i hi).2⟩, hR.move (hS _ (by rw [hT.rp]; omega)) (hS _ (by rw [hT.g]; omega)) (by rw [sz]; omega)⟩,
    rfl, rfl, rfl, by rw [sz]; omega, fun b _ hb => ⟨hb, hS b (by omega)⟩⟩
  obtain ⟨e1, e2, e3⟩ := h.sp i hi
  exact (h.rings i hi).anew (by rw [sz]; omega) (fun b hb => hS b (by rw [hT.s i hi b hb]; omega)) ⟨u, by rw [e1, e2, e3]; exact hA⟩ (fun _ _ => rfl)

/-- enter, of a ring. -/
def Enters (s : Spot) (R : Rows) (D : Nat → Int) (c : Int) (w : World) (e : Ending) (w' : World) : Prop :=
  e = .returned (.tuple #[.int .i64 c, .int .i64 0]) ∧ (∃ D', RingD s (R.grow c).alloc D' w' ∧ SameBut (R.grow c) D D') ∧ Turn s w w'

set_option maxHeartbeats 1000000 in
set_option maxRecDepth 100000 in
theorem enter_ring (s : Spot) (R : Rows) (D : Nat → Int) (w : World) (hR : RingD s R D w) (c : Int) (hf : Fit s.n (c :: R.all)) (hl : R.all.length < 1000) :
    Calls Try.prog 86 #[.pointer (some ⟨s.r, 0, none⟩), .int .i64 c] w (Enters s R D c w) := by
  have H1 := Lib.hid (ringd_grow s R w D hR c hf hl)
  clear hR hf hl
  go_enter Try.func86, Try.ntmps86
  go_wp2_with fail
  refine H1.out.mono ?_
  rintro e w2 ⟨rfl, ⟨D', h2, h3⟩, ht⟩
  have H2 := Lib.hid (And.intro h2 (And.intro h3 ht))
  clear H1 h2 h3 ht
  go_wp2_with fail
  refine (ringd_alloc s (R.grow c) w2 D' H2.out.1 c R.white rfl).mono ?_
  rintro e w3 ⟨rfl, ⟨D2, h2, rfl⟩, ht⟩
  have H3 := Lib.hid (And.intro h2 ht)
  clear h2 ht
  go_wp2_with fail
  refine bodyPost_ret (v := .tuple #[.int .i64 c, .int .i64 0]) (by simp [results, Try.results86, go_sem]) rfl ?_
  exact ⟨rfl, ⟨D2, H3.out.1, H2.out.2.1⟩, H2.out.2.2.trans H3.out.2⟩

/-- Cells of two rings lie apart. -/
def Far (k : Nat) (R : Nat → Rows) : Prop := ∀ i, i ≤ k → ∀ j, j ≤ k → i ≠ j → ∀ a, a ∈ (R i).all → ∀ b, b ∈ (R j).all → a + 3 ≤ b ∨ b + 3 ≤ a
theorem far_links {k : Nat} {R : Nat → Rows} {Q : Rows} {D D' : Nat → Int} {i : Nat} (hQ : ∀ j, j ≤ k → j ≠ i → ∀ a, a ∈ Q.all → ∀ b, b ∈ (R j).all → a + 3 ≤ b ∨ b + 3 ≤ a) (hs : SameBut Q D D') : ∀ j, j ≤ k → j ≠ i → ∀ m, Links (R j) m → D' m = D m := by
  intro j hj hji m hm
  obtain ⟨b, hb, hbm⟩ := hm
  refine hs m ?_
  rintro ⟨a, ha, ham⟩
  have := hQ j hj hji a ha b hb
  omega

/-- One row turns. -/
def put1 (R : Nat → Rows) (i : Nat) (Q : Rows) : Nat → Rows := fun j => if j = i then Q else R j

/-- What takeOf does: a white cell, or a new one, or none. -/
inductive TakenOf (x : HSpot) (T : Nat → Nat) (D : Nat → Int) (R : Nat → Rows) (top par : Int) (L : List (Int × Int)) (i : Nat) (w : World) (e : Ending) (w' : World) : Prop
  | white (c : Int) (l : List Int) (hw : (R i).white = c :: l) (he : e = .returned (.tuple #[.int .i64 c, .int .i64 0])) (h : HLies x T D (put1 R i (R i).alloc) top par L w') (ht : HTurn T T w w')
  | fresh (D' : Nat → Int) (hw : (R i).white = []) (hr : top + x.sz i + 3 ≤ x.lim) (he : e = .returned (.tuple #[.int .i64 top, .int .i64 0])) (h : HLies x T D' (put1 R i ((R i).grow top).alloc) (top + x.sz i + 3) par L w') (hD : SameBut ((R i).grow top) D D') (ht : HTurn T T w w')
  | full (hw : (R i).white = []) (hr : x.lim < top + x.sz i + 3) (he : e = .returned (.tuple #[.int .i64 0, .int .i64 2])) (h : HLies x T D R top par L w') (ht : HTurn T T w w')

set_option maxHeartbeats 4000000 in
set_option maxRecDepth 100000 in
theorem take_of (x : HSpot) (T : Nat → Nat) (D : Nat → Int) (R : Nat → Rows) (top par : Int) (L : List (Int × Int)) (w : World) (h : HLies x T D R top par L w) (i : Nat) (hi : i < x.k) (hsz : 1 ≤ x.sz i ∧ x.sz i ≤ 24) (ht0 : 1 ≤ top) (ht1 : top ≤ x.lim) (hlim : x.lim ≤ x.n) (hn : x.n ≤ 65536)
    (hFar : Far x.k R) (hTop : ∀ j, j < x.k → ∀ a, a ∈ (R j).all → a + 3 ≤ top) (hBig : ∀ a, a ∈ (R x.k).all → x.lim ≤ a) (hl : (R i).all.length < 1000) :
    Calls Try.prog 84 #[.pointer (some ⟨x.h, 0, none⟩), .agg #[.int .i64 (x.sz i), .pointer (some ⟨(x.S i).r, 0, none⟩)]] w (TakenOf x T D R top par L i w) := by
  have hx := (Below.refl w.heap.size w).alloc (Nat.le_refl _) (.cells #[.int .i64 (x.sz i), .pointer (some ⟨(x.S i).r, 0, none⟩)] 101)
  have b0 : (w.alloc (.cells #[.int .i64 (x.sz i), .pointer (some ⟨(x.S i).r, 0, none⟩)] 101)).cell? ⟨w.heap.size, 0, none⟩ = some (.int .i64 (x.sz i)) := by simp [go_sem]
  have b1 : (w.alloc (.cells #[.int .i64 (x.sz i), .pointer (some ⟨(x.S i).r, 0, none⟩)] 101)).cell? ⟨w.heap.size, 1, none⟩ = some (.pointer (some ⟨(x.S i).r, 0, none⟩)) := by simp [go_sem]
  have HX := Lib.hid (And.intro hx (h.later hx))
  have hne : w.heap.size ≠ x.h := by have := h.lh; omega
  have HF := Lib.hid hFar
  have HP := Lib.hid hTop
  have HBG := Lib.hid hBig
  clear hx h hFar hTop hBig
  go_enter Try.func84, Try.ntmps84
  go_upto_region 1 with fail
  generalize (w.alloc (.cells #[.int .i64 (x.sz i), .pointer (some ⟨(x.S i).r, 0, none⟩)] 101)) = W at *
  go_wp2_with fail
  cases hw : (R i).white with
  | cons c l =>
    refine (ringd_alloc (x.S i) (R i) W D (HX.out.2.rings i (by omega)) c l hw).mono ?_
    rintro e w2 ⟨rfl, ⟨D2, h2, rfl⟩, ht⟩
    have H2 := Lib.hid (HX.out.2.ring (Nat.le_of_lt hi) h2 ht (fun _ _ _ _ _ => rfl))
    clear h2 ht
    go_wp2_with fail
    refine bodyPost_ret (v := .tuple #[.int .i64 c, .int .i64 0]) (by simp [results, Try.results84, go_sem]) rfl ?_
    exact .white c l hw rfl H2.out.1 ((HTurn.of_below HX.out.1).trans H2.out.2)
  | nil =>
    refine (ring_alloc_full (x.S i) (R i) W (HX.out.2.rings i (by omega)).ring hw).mono ?_
    rintro e w2 ⟨rfl, rfl⟩
    have hh := HX.out.2
    have c4 := hh.top
    have c5 := hh.lim
    have z4 := hh.fz 4
    have e1 : IntKind.i64.wrap (top + x.sz i) = top + x.sz i := by rw [IntKind.wrap_i64]; omega
    have e2 : IntKind.i64.wrap (top + x.sz i + 3) = top + x.sz i + 3 := by rw [IntKind.wrap_i64]; omega
    clear hh
    by_cases g : (x.lim : Int) < top + x.sz i + 3
    · have g' : decide ((x.lim : Int) < top + x.sz i + 3) = true := decide_eq_true g
      go_wp2_with fail
      go_region
      go_wp2_with fail
      refine bodyPost_ret (v := .tuple #[.int .i64 0, .int .i64 2]) (by simp [results, Try.results84, go_sem]) rfl ?_
      have hd := (Below.refl w2.heap.size w2).drew
      exact .full hw g rfl (HX.out.2.later hd) ((HTurn.of_below HX.out.1).trans (HTurn.of_below hd))
    · have g' : decide ((x.lim : Int) < top + x.sz i + 3) = false := decide_eq_false g
      go_wp2_with fail
      go_region
      obtain ⟨h3, t3⟩ := HX.out.2.setTop (top + x.sz i + 3)
      have b1' := (World.cell?_setCell_other w2 ⟨x.h, 4, none⟩ ⟨w.heap.size, 1, none⟩ (.int .i64 (top + x.sz i + 3)) (fun e => hne (congrArg Addr.block e).symm)).trans b1
      go_wp2_with fail
      have hd := (Below.refl (w2.setCell ⟨x.h, 4, none⟩ (.int .i64 (top + x.sz i + 3))).heap.size (w2.setCell ⟨x.h, 4, none⟩ (.int .i64 (top + x.sz i + 3)))).drew
      have HH := Lib.hid (And.intro (h3.later hd) (((HTurn.of_below HX.out.1).trans t3).trans (HTurn.of_below hd)))
      generalize (w2.setCell ⟨x.h, 4, none⟩ (.int .i64 (top + x.sz i + 3))).drew = W3 at *
      clear h3 t3 hd b1'
      have hfit : Fit (x.S i).n (top :: (R i).all) := by
        have hf := (HX.out.2.rings i (by omega)).fit
        have e3 := (HX.out.2.sp i (by omega)).2.2
        rw [e3] at hf ⊢
        refine ⟨fun a ha => ?_, List.pairwise_cons.2 ⟨fun a ha => Or.inr (HP.out i hi a ha), hf.far⟩⟩
        rcases List.mem_cons.1 ha with rfl | ha
        · exact ⟨ht0, by omega⟩
        · exact hf.rng a ha
      refine (enter_ring (x.S i) (R i) D W3 (HH.out.1.rings i (by omega)) top hfit hl).mono ?_
      rintro e w4 ⟨rfl, ⟨D', h5, h6⟩, ht⟩
      have hfar : ∀ j, j ≤ x.k → j ≠ i → ∀ a, a ∈ ((R i).grow top).all → ∀ b, b ∈ (R j).all → a + 3 ≤ b ∨ b + 3 ≤ a := by
        intro j hj hji a ha b hb
        rcases List.mem_cons.1 (show a ∈ top :: (R i).all from ha) with rfl | ha
        · by_cases ek : j = x.k
          · subst ek
            have := HBG.out b hb
            omega
          · exact Or.inr (HP.out j (by omega) b hb)
        · exact HF.out i (by omega) j hj (Ne.symm hji) a ha b hb
      have H5 := Lib.hid (And.intro (HH.out.1.ring (Nat.le_of_lt hi) h5 ht (far_links hfar h6)) h6)
      clear h5 h6 ht hfar hfit
      go_wp2_with fail
      refine bodyPost_ret (v := .tuple #[.int .i64 top, .int .i64 0]) (by simp [results, Try.results84, go_sem]) rfl ?_
      exact .fresh D' hw (by omega) rfl H5.out.1.1 H5.out.2 (HH.out.2.trans H5.out.1.2)

end Go.Proofs.Ytbjlpmjalidfkaa
