/- Begin, End. -/
import Derived.Test.YtbjlpmjalidfkaaHpR
namespace Go.Proofs.Ytbjlpmjalidfkaa
open Go.RowKit

/-- A heap's parity turns. -/
theorem HLies.setPar {x : HSpot} {T : Nat → Nat} {D : Nat → Int} {R : Nat → Rows} {top par : Int} {L : List (Int × Int)} {w : World} (h : HLies x T D R top par L w) (t : Int) :
    HLies x T D R top t L (w.setCell ⟨x.h, 6, none⟩ (.int .i64 t)) ∧ HTurn T T w (w.setCell ⟨x.h, 6, none⟩ (.int .i64 t)) := by
  obtain ⟨cb, cap, g, hT, hc, hcs, hR⟩ := h.rest
  obtain ⟨u, hu⟩ := h.at
  have hS : ∀ b, T b ≠ 0 → (w.setCell ⟨x.h, 6, none⟩ (.int .i64 t)).heap[b]? = w.heap[b]? := fun b hb => Below.heap_setCell _ _ _ _ (fun e => hb (by rw [e]; exact hT.h))
  have o : ∀ (j : Nat) (v : Value), j ≠ 6 → w.cell? ⟨x.h, j, none⟩ = some v → (w.setCell ⟨x.h, 6, none⟩ (.int .i64 t)).cell? ⟨x.h, j, none⟩ = some v := fun j v hj hv => (World.cell?_setCell_other _ _ _ _ (fun e => hj (by cases e; rfl))).trans hv
  have sz : (w.setCell ⟨x.h, 6, none⟩ (.int .i64 t)).heap.size = w.heap.size := by simp [World.setCell]
  have oc : ∀ (b j : Nat) (v : Value), T b ≠ 0 → w.cell? ⟨b, j, none⟩ = some v → (w.setCell ⟨x.h, 6, none⟩ (.int .i64 t)).cell? ⟨b, j, none⟩ = some v := fun b j v hb hv => (World.cell?_of_block (w := w) (hS b hb)).trans hv
  have hA : At (w.setCell ⟨x.h, 6, none⟩ (.int .i64 t)) x.p x.d x.n D u := hu.move (hS _ (by rw [hT.p]; omega)) (hS _ (by rw [hT.d]; omega)) (by rw [sz]; omega)
  refine ⟨⟨o 0 _ (by omega) h.arena, o 2 _ (by omega) h.large, o 3 _ (by omega) h.room, o 4 _ (by omega) h.top, o 5 _ (by omega) h.lim, World.cell?_setCell_same _ _ _ h.par, fun j => (World.frozen?_setCell _ _ _ _).trans (h.fz j), fun i hi => ?_, h.sp, h.k1, h.k6,
    cb, cap, g, hT, o 1 _ (by omega) hc, fun i hi => ⟨oc _ _ _ (by rw [hT.cb]; omega) (hcs i hi).1, oc _ _ _ (by rw [hT.cb]; omega) (hcs i hi).2⟩, hR.move (hS _ (by rw [hT.rp]; omega)) (hS _ (by rw [hT.g]; omega)) (by rw [sz]; omega)⟩,
    rfl, rfl, rfl, by rw [sz]; omega, fun b _ hb => ⟨hb, hS b (by omega)⟩⟩
  obtain ⟨e1, e2, e3⟩ := h.sp i hi
  exact (h.rings i hi).anew (by rw [sz]; omega) (fun b hb => hS b (by rw [hT.s i hi b hb]; omega)) ⟨u, by rw [e1, e2, e3]; exact hA⟩ (fun _ _ => rfl)


/-- What a heap's call leaves, when all rings were asked. -/
def AllAsked (x : HSpot) (T : Nat → Nat) (D : Nat → Int) (R : Nat → Rows) (F : Rows → Rows) (top par : Int) (L : List (Int × Int)) (w w' : World) : Prop := ∃ T', HLies x T' D (mix F R (x.k + 1)) top par L w' ∧ HTurn T T' w w'

set_option maxRecDepth 100000 in
set_option maxHeartbeats 4000000 in
theorem hbegin_any (x : HSpot) (T : Nat → Nat) (D : Nat → Int) (R : Nat → Rows) (top par : Int) (L : List (Int × Int)) (w : World) (h : HLies x T D R top par L w) (hn : 0 < x.n) (hp : par = 0 ∨ par = 1) (hF : ∀ i, i ≤ x.k → (R i).frm = []) (hG : ∀ i, i ≤ x.k → (R i).grey = []) :
    Calls Try.prog 23 #[.pointer (some ⟨x.h, 0, none⟩)] w fun e w' => e = .returned (.int .i64 0) ∧ AllAsked x T D R Rows.begin top (1 - par) L w w' := by
  have H := Lib.hid h
  have H1 := Lib.hid (has_none x T D R top par L w h 1 (by decide) (fun i hi => hF i hi))
  have HFG := Lib.hid (And.intro hF hG)
  have ew : IntKind.i64.wrap (1 - par) = 1 - par := by rw [IntKind.wrap_i64]; omega
  clear h hF hG hp
  go_enter Try.func23, Try.ntmps23
  go_wp2_with fail
  refine H1.out.mono ?_
  rintro e w2 ⟨rfl, T2, h2, t2⟩
  have H2 := Lib.hid (And.intro h2 t2)
  clear h2 t2 H1
  go_wp2_with fail
  refine (has_none x T2 D R top par L w2 H2.out.1 2 (by decide) (fun i hi => HFG.out.2 i hi)).mono ?_
  rintro e w3 ⟨rfl, T3, h3, t3⟩
  have H3 := Lib.hid (And.intro h3 (H2.out.2.trans t3))
  clear h3 t3 H2
  go_wp2_with fail
  refine (each_any x T3 D R top par L w3 H3.out.1 hn 37 Rows.begin (enters_of Try.func37 (by kernel_rfl) rfl) (fun i hi W hW => ringd_begin (x.S i) (R i) W D hW (HFG.out.1 i hi) (HFG.out.2 i hi))).mono ?_
  rintro e w4 ⟨⟨v, rfl⟩, T4, h4, t4⟩
  have H4 := Lib.hid (And.intro h4 (H3.out.2.trans t4))
  have c6 := h4.par
  have z6 := h4.fz 6
  clear h4 t4 H3
  go_wp2_with fail
  go_ret
  obtain ⟨h5, t5⟩ := H4.out.1.setPar (1 - par)
  exact ⟨rfl, T4, h5, H4.out.2.trans t5⟩

set_option maxRecDepth 100000 in
set_option maxHeartbeats 4000000 in
theorem hend_any (x : HSpot) (T : Nat → Nat) (D : Nat → Int) (R : Nat → Rows) (top par : Int) (L : List (Int × Int)) (w : World) (h : HLies x T D R top par L w) (hn : 0 < x.n) (hG : ∀ i, i ≤ x.k → (R i).grey = []) :
    Calls Try.prog 27 #[.pointer (some ⟨x.h, 0, none⟩)] w fun e w' => e = .returned (.int .i64 0) ∧ AllAsked x T D R Rows.fin top par L w w' := by
  have H1 := Lib.hid (has_none x T D R top par L w h 2 (by decide) (fun i hi => hG i hi))
  have HFG := Lib.hid hG
  clear h hG
  go_enter Try.func27, Try.ntmps27
  go_wp2_with fail
  refine H1.out.mono ?_
  rintro e w2 ⟨rfl, T2, h2, t2⟩
  have H2 := Lib.hid (And.intro h2 t2)
  clear h2 t2 H1
  go_wp2_with fail
  refine (each_any x T2 D R top par L w2 H2.out.1 hn 46 Rows.fin (enters_of Try.func46 (by kernel_rfl) rfl) (fun i hi W hW => ringd_end (x.S i) (R i) W D hW (HFG.out i hi))).mono ?_
  rintro e w4 ⟨⟨v, rfl⟩, T4, h4, t4⟩
  have H4 := Lib.hid (And.intro h4 (H2.out.2.trans t4))
  clear h4 t4 H2
  go_wp2_with fail
  go_ret
  exact ⟨rfl, T4, H4.out.1, H4.out.2⟩

end Go.Proofs.Ytbjlpmjalidfkaa
