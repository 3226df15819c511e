/- The document's example: it comes out. -/
import Derived.Test.YtbjlpmjalidfkaaHpK
namespace Go.Proofs.Ytbjlpmjalidfkaa
open Go.RowKit

def two4 (i : Nat) : Int := if i = 0 then 2 else 4
theorem two4_cls1 : Cls two4 2 1 0 := ⟨by omega, fun j hj => by omega, fun _ => by decide⟩
theorem two4_cls2 : Cls two4 2 2 0 := ⟨by omega, fun j hj => by omega, fun _ => by decide⟩
theorem two4_cls3 : Cls two4 2 3 1 := ⟨by omega, fun j hj => by (obtain rfl : j = 0 := by omega); exact (by decide : two4 0 < 3), fun _ => (by decide : (3 : Int) ≤ two4 1)⟩
theorem two4_sz : ∀ i, i < 2 → 1 ≤ two4 i ∧ two4 i ≤ 24 := fun i hi => by
  obtain rfl | rfl : i = 0 ∨ i = 1 := by omega
  · decide
  · decide
theorem two4_rise : Rise two4 2 := fun i hi => by
  obtain rfl | rfl : i = 0 ∨ i = 1 := by omega
  · decide
  · decide

set_option maxHeartbeats 8000000 in
set_option maxRecDepth 100000 in
theorem hawake_any (w : World) : Calls Try.prog 15 #[] w fun e w' => e = .returned (.bool true) ∧ Below w.heap.size w w' := by
  have q : ∀ (w : World) (a : Nat), (binOp .eql 46 (.pointer (some ⟨a, 0, none⟩)) (.pointer none)).run Try.prog w = .ok (.bool false) w := fun w a => rfl
  have hb0 := (Below.refl w.heap.size w).alloc (Nat.le_refl _) (.cells #[.int .i64 2, .int .i64 4] 3)
  go_enter Try.func15, Try.ntmps15
  go_wp2_with fail
  have hS : Sizes (w.alloc (.cells #[.int .i64 2, .int .i64 4] 3)) (some ⟨w.heap.size, 0, none⟩) 2 two4 := fun _ => ⟨w.heap.size, 0, rfl, by simp, fun k hk => by
    obtain rfl | rfl : k = 0 ∨ k = 1 := by omega
    · simp [go_sem, two4]
    · simp [go_sem, two4]⟩
  have HB0 := Lib.hid hb0
  have HS := Lib.hid hS
  generalize (w.alloc (.cells #[.int .i64 2, .int .i64 4] 3)) = W0 at *
  clear hb0 hS
  refine (heap_new 40 0 0 0 0 0 (some ⟨w.heap.size, 0, none⟩) 2 2 two4 W0 HS.out ⟨by omega, by omega, by omega, by omega, by omega, by omega, two4_rise⟩).mono ?_
  rintro e w1 ⟨x, T, rfl, f1, f2, f3, f4, h1, hb1, hT⟩
  have hx := HB0.out.size
  have hz1 := hb1.size
  have hI1 := inv_new (L := Ex.whole x.lim (x.n - x.lim : Int)) (show 1 ≤ x.lim by omega) (by omega) (by omega) (by rw [f3, f4]; exact two4_sz)
  have H1 := Lib.hid (And.intro h1 (And.intro (onB' HB0.out hb1) hI1))
  have HT := Lib.hid hT
  clear h1 hb1 hI1 HB0 HS hT
  go_wp2_with fail
  refine (alloc_any x T _ _ 1 0 _ w1 H1.out.1 H1.out.2.2 1 0 1).mono ?_
  intro e w2 h2
  obtain ⟨T2, D2, rfl, h3, t3, hA, hW⟩ := h2.fresh (by decide) 0 (by rw [f3, f4]; exact two4_cls1) (by omega) rfl (by rw [f4]; simp only [two4, if_true]; omega)
  have hI2 := alloc_inv H1.out.2.2 H1.out.1.good hA hW (by omega) (sb_pw (by decide)) (fun i _ => by simp [none4, Rows.all])
  have e4 : (1 : Int) + x.sz 0 + 3 = 6 := by rw [f4]; rfl
  rw [e4] at h3 hI2
  have H2 := Lib.hid (And.intro h3 (And.intro t3 hI2))
  clear h2 h3 t3 hA hW hI2
  go_wp2_with fail
  refine (alloc_any x T2 _ _ 6 0 _ w2 H2.out.1 H2.out.2.2 1 0 3).mono ?_
  intro e w3 h2
  obtain ⟨T3, D3, rfl, h3, t3, hA, hW⟩ := h2.fresh (by decide) 1 (by rw [f3, f4]; exact two4_cls3) (by omega) rfl (by rw [f4]; simp only [two4]; omega)
  have hI2 := alloc_inv H2.out.2.2 H2.out.1.good hA hW (by omega) (sb_pw (by decide)) (fun i _ => by unfold put1; split <;> simp [none4, Rows.all, Rows.grow, Rows.alloc])
  have e4 : (6 : Int) + x.sz 1 + 3 = 13 := by rw [f4]; rfl
  rw [e4] at h3 hI2
  have H3 := Lib.hid (And.intro h3 (And.intro (H2.out.2.1.trans t3) hI2))
  clear h2 h3 t3 hA hW hI2
  go_wp2_with fail
  refine (alloc_any x T3 _ _ 13 0 _ w3 H3.out.1 H3.out.2.2 1 0 2).mono ?_
  intro e w4 h2
  obtain ⟨T4, D4, rfl, h3, t3, hA, hW⟩ := h2.fresh (by decide) 0 (by rw [f3, f4]; exact two4_cls2) (by omega) rfl (by rw [f4]; simp only [two4, if_true]; omega)
  have H4 := Lib.hid (And.intro h3 (H3.out.2.1.trans t3))
  clear h2 h3 t3 hA hW
  go_wp2_with fail
  refine (round_any x T4 _ _ _ 0 _ w4 H4.out.1 3 ⟨by omega, by omega⟩ 1 (by rw [f3, f4]; exact two4_cls3) (fun _ => by rw [f4]; exact two4_sz 1 (by omega))).mono ?_
  rintro e w5 ⟨rfl, hb5⟩
  have e4 : (if 1 < x.k then x.sz 1 + 3 else 3 + 3) = (7 : Int) := by rw [f3, f4]; rfl
  rw [e4]
  have H5 := Lib.hid (onB' (H1.out.2.1.trans ((H4.out.2.below (B := W0.heap.size) HT.out hz1).mono hx)) hb5)
  clear hb5
  go_wp2_with fail
  go_ret
  exact ⟨rfl, H5.out⟩

end Go.Proofs.Ytbjlpmjalidfkaa
