/- ArenaKeeps: for all arguments that can be read the statement's function returns true; each argument reads behind the call as before. -/
import Derived.Test.YtfkcmadnebeijaaRows
import Derived.ProofKit
import Derived.OpenShut
import Derived.Test.YtfkcmadnebeijaaArE
namespace Go.Proofs.Ytfkcmadnebeijaa.arenaKeeps
open Go.ChangeShapes Go.WideShapes Go.ChangeAt Go.RowKit

theorem laidOut : laidOutB Try.prog = true := by kernel_rfl
theorem own : ownKnob Try.prog.godebug = none := by kernel_rfl
theorem bounds_i64 {a : Int} (h : (Lit.int .i64 a).wf = true) : -9223372036854775808 ≤ a ∧ a ≤ 9223372036854775807 := by
  have hmin : IntKind.i64.min = -9223372036854775808 := rfl
  have hmax : IntKind.i64.max = 9223372036854775807 := rfl
  simp only [Lit.wf, Bool.and_eq_true, decide_eq_true_eq] at h
  omega

theorem walk_out (n : Int) (a0 : Option Addr) (len cap : Nat) (i o x : Int) (w : World) (hl : len ≤ 9223372036854775807) (hr : ¬ (1 ≤ n ∧ n ≤ 5000 ∧ len ≤ 200)) :
    Calls Try.prog 4 #[.int .i64 n, .slice a0 len cap, .int .i64 i, .int .i64 o, .int .i64 x] w fun e w' => e = .returned (.bool true) ∧ Below w.heap.size w w' := by
  by_cases g1 : n < 1
  · go_enter Try.func4, Try.ntmps4
    go_wp2_with fail
    refine (awake_any _).mono ?_
    rintro e w1 ⟨rfl, hB⟩
    go_wp2_with fail
    go_ret
    exact ⟨rfl, hB⟩
  by_cases g2 : n > 5000
  · clear hr
    go_enter Try.func4, Try.ntmps4
    go_wp2_with fail
    refine (awake_any _).mono ?_
    rintro e w1 ⟨rfl, hB⟩
    go_wp2_with fail
    go_ret
    exact ⟨rfl, hB⟩
  · have g3 : (len : Int) > 200 := by omega
    clear hr
    go_enter Try.func4, Try.ntmps4
    go_wp2_with fail
    refine (awake_any _).mono ?_
    rintro e w1 ⟨rfl, hB⟩
    go_wp2_with fail
    go_ret
    exact ⟨rfl, hB⟩

set_option maxHeartbeats 8000000 in
theorem walk_narrow (n : Int) (a0 : Option Addr) (len cap : Nat) (i o x : Int) (w : World) (g1 : 1 ≤ n) (g2 : n ≤ 5000) (hlen : len ≤ 200)
    (hc : 0 < len → ∃ b off, a0 = some ⟨b, off, none⟩ ∧ ∃ K A X : Nat → Int, ∀ k, k < len → w.cell? ⟨b, off + k * 3, none⟩ = some (.int .i64 (K k)) ∧ w.cell? ⟨b, off + k * 3 + 1, none⟩ = some (.int .i64 (A k)) ∧ w.cell? ⟨b, off + k * 3 + 2, none⟩ = some (.int .i64 (X k))) :
    Calls Try.prog 4 #[.int .i64 n, .slice a0 len cap, .int .i64 i, .int .i64 o, .int .i64 x] w fun e w' => e = .returned (.bool true) ∧ Below w.heap.size w w' := by
  have HC : Hid (0 < len → ∃ b off, a0 = some ⟨b, off, none⟩ ∧ ∃ K A X : Nat → Int, ∀ k, k < len → w.cell? ⟨b, off + k * 3, none⟩ = some (.int .i64 (K k)) ∧ w.cell? ⟨b, off + k * 3 + 1, none⟩ = some (.int .i64 (A k)) ∧ w.cell? ⟨b, off + k * 3 + 2, none⟩ = some (.int .i64 (X k))) := hc
  clear hc
  go_enter Try.func4, Try.ntmps4
  go_wp2_with fail
  refine (awake_any _).mono ?_
  rintro e w1 ⟨rfl, hB⟩
  have s1 := hB.size
  go_wp2_with fail
  refine (new_in n g1 (by omega) _).mono ?_
  rintro e w2 ⟨p, d, rfl, hA, hb, lp, ld⟩
  replace hB := stepB hB hb
  have hn : (n.toNat : Int) = n := by omega
  have hm : n.toNat ≤ 5000 := by omega
  generalize n.toNat = m at *
  subst hn
  go_wp2_with fail
  have HA : Hid (At w2 p d m (fun _ => 0) 0) := hA
  clear hA hb
  go_loopw [13] (fun s wr => ∃ (k : Nat) (u : Int) (D : Nat → Int), k ≤ len ∧ s = .int .i64 k ∧ At wr p d m D u ∧ Below w.heap.size w wr) (fun s _ => len - (intOf s).toNat)
  case atStart => exact ⟨0, 0, _, Nat.zero_le _, rfl, HA.out, hB⟩
  case round =>
    obtain ⟨k, u, D, hk, rfl, hA, hBr⟩ := hrel
    by_cases hlt : k < len
    · obtain ⟨b, off, rfl, K, A, X, hcell⟩ := HC.out (by omega)
      obtain ⟨c0, c1, c2⟩ := hcell k hlt
      have hbl : b < w.heap.size := World.block_lt_of_cell? _ _ c0
      replace c0 := (hBr.cell (p := ⟨b, off + k * 3, none⟩) hbl).trans c0
      replace c1 := (hBr.cell (p := ⟨b, off + k * 3 + 1, none⟩) hbl).trans c1
      replace c2 := (hBr.cell (p := ⟨b, off + k * 3 + 2, none⟩) hbl).trans c2
      clear hcell
      generalize K k = K at *
      generalize A k = A at *
      generalize X k = X at *
      go_wp2_with fail
      refine (do_any p d m D u K A X wr hA).mono ?_
      rintro e w3 ⟨rfl, hA3, hq⟩
      replace hBr := hBr.trans (hq.below (by omega) (by omega) hBr.size)
      clear hq hA
      go_wp2_with fail
      go_roundw
      case rel => exact ⟨k + 1, _, _, by omega, by go_num, hA3, hBr⟩
      case measure => simp [intOf]; omega
    · obtain rfl : k = len := by omega
      go_wp2_with fail
      by_cases he : i = o
      · subst he
        by_cases t0 : 0 ≤ i
        · by_cases t1 : i < m
          · refine (load_in p d m _ _ i _ hA t0 t1).mono ?_
            rintro e x1 ⟨rfl, hA', hq⟩
            replace hBr := hBr.trans (hq.below (by omega) (by omega) hBr.size)
            clear hA hq
            have hA := hA'
            clear hA'
            go_wp2_with fail
            refine (store_in p d m _ _ i x _ hA t0 t1).mono ?_
            rintro e x2 ⟨rfl, hA', hq⟩
            replace hBr := hBr.trans (hq.below (by omega) (by omega) hBr.size)
            clear hA hq
            have hA := hA'
            clear hA'
            go_wp2_with fail
            refine (load_in p d m _ _ i _ hA t0 t1).mono ?_
            rintro e x3 ⟨rfl, hA', hq⟩
            replace hBr := hBr.trans (hq.below (by omega) (by omega) hBr.size)
            clear hA hq
            have hA := hA'
            clear hA'
            go_wp2_with fail
            refine (load_in p d m _ _ i _ hA t0 t1).mono ?_
            rintro e x4 ⟨rfl, hA', hq⟩
            replace hBr := hBr.trans (hq.below (by omega) (by omega) hBr.size)
            clear hA hq
            have hA := hA'
            clear hA'
            simp only [if_true]
            go_wp2_with fail
            all_goals
              (obtain ⟨D9, u9, hA⟩ : ∃ D9 u9, At _ p d m D9 u9 := ⟨_, _, hA⟩
               have lp5 := hA.lp
               have ld5 := hA.ld
               refine (words_any p d m _ _ _ hA (by omega) (by omega)).mono ?_
               rintro e x5 ⟨c, cc, rfl, hT, lc, hb⟩
               have s4 := hBr.size
               replace hBr := stepB hBr hb
               replace hA := hA.later hb
               have f0 := hT.data 0 (by omega)
               have fz0 := hT.fz 0 (by omega)
               clear hT hb
               go_wp2_with fail
               refine (load_in p d m _ _ 0 _ (hA.below ((Below.refl _ _).setCell lc _) lp5 ld5) (by omega) (by omega)).mono ?_
               rintro e x6 ⟨rfl, _, hq⟩
               replace hBr := (hBr.setCell (p := ⟨c, 0, none⟩) (show w.heap.size ≤ c by omega) _).trans (hq.below (by omega) (by omega) (Nat.le_trans hBr.size (Nat.le_of_eq (by simp [World.setCell]))))
               go_wp2_with fail
               go_ret
               exact ⟨by simp, hBr⟩)
          · refine (load_out p d m _ _ i _ hA (by omega)).mono ?_
            rintro e x1 ⟨rfl, hA', hq⟩
            replace hBr := hBr.trans (hq.below (by omega) (by omega) hBr.size)
            clear hA hq
            have hA := hA'
            clear hA'
            go_wp2_with fail
            refine (store_out p d m _ _ i x _ hA (by omega)).mono ?_
            rintro e x2 ⟨rfl, hA', hq⟩
            replace hBr := hBr.trans (hq.below (by omega) (by omega) hBr.size)
            clear hA hq
            have hA := hA'
            clear hA'
            go_wp2_with fail
            refine (load_out p d m _ _ i _ hA (by omega)).mono ?_
            rintro e x3 ⟨rfl, hA', hq⟩
            replace hBr := hBr.trans (hq.below (by omega) (by omega) hBr.size)
            clear hA hq
            have hA := hA'
            clear hA'
            go_wp2_with fail
            refine (load_out p d m _ _ i _ hA (by omega)).mono ?_
            rintro e x4 ⟨rfl, hA', hq⟩
            replace hBr := hBr.trans (hq.below (by omega) (by omega) hBr.size)
            clear hA hq
            have hA := hA'
            clear hA'
            go_wp2_with fail
            all_goals
              (obtain ⟨D9, u9, hA⟩ : ∃ D9 u9, At _ p d m D9 u9 := ⟨_, _, hA⟩
               have lp5 := hA.lp
               have ld5 := hA.ld
               refine (words_any p d m _ _ _ hA (by omega) (by omega)).mono ?_
               rintro e x5 ⟨c, cc, rfl, hT, lc, hb⟩
               have s4 := hBr.size
               replace hBr := stepB hBr hb
               replace hA := hA.later hb
               have f0 := hT.data 0 (by omega)
               have fz0 := hT.fz 0 (by omega)
               clear hT hb
               go_wp2_with fail
               refine (load_in p d m _ _ 0 _ (hA.below ((Below.refl _ _).setCell lc _) lp5 ld5) (by omega) (by omega)).mono ?_
               rintro e x6 ⟨rfl, _, hq⟩
               replace hBr := (hBr.setCell (p := ⟨c, 0, none⟩) (show w.heap.size ≤ c by omega) _).trans (hq.below (by omega) (by omega) (Nat.le_trans hBr.size (Nat.le_of_eq (by simp [World.setCell]))))
               go_wp2_with fail
               go_ret
               exact ⟨by simp, hBr⟩)
        · refine (load_out p d m _ _ i _ hA (by omega)).mono ?_
          rintro e x1 ⟨rfl, hA', hq⟩
          replace hBr := hBr.trans (hq.below (by omega) (by omega) hBr.size)
          clear hA hq
          have hA := hA'
          clear hA'
          go_wp2_with fail
          refine (store_out p d m _ _ i x _ hA (by omega)).mono ?_
          rintro e x2 ⟨rfl, hA', hq⟩
          replace hBr := hBr.trans (hq.below (by omega) (by omega) hBr.size)
          clear hA hq
          have hA := hA'
          clear hA'
          go_wp2_with fail
          refine (load_out p d m _ _ i _ hA (by omega)).mono ?_
          rintro e x3 ⟨rfl, hA', hq⟩
          replace hBr := hBr.trans (hq.below (by omega) (by omega) hBr.size)
          clear hA hq
          have hA := hA'
          clear hA'
          go_wp2_with fail
          refine (load_out p d m _ _ i _ hA (by omega)).mono ?_
          rintro e x4 ⟨rfl, hA', hq⟩
          replace hBr := hBr.trans (hq.below (by omega) (by omega) hBr.size)
          clear hA hq
          have hA := hA'
          clear hA'
          go_wp2_with fail
          all_goals
            (obtain ⟨D9, u9, hA⟩ : ∃ D9 u9, At _ p d m D9 u9 := ⟨_, _, hA⟩
             have lp5 := hA.lp
             have ld5 := hA.ld
             refine (words_any p d m _ _ _ hA (by omega) (by omega)).mono ?_
             rintro e x5 ⟨c, cc, rfl, hT, lc, hb⟩
             have s4 := hBr.size
             replace hBr := stepB hBr hb
             replace hA := hA.later hb
             have f0 := hT.data 0 (by omega)
             have fz0 := hT.fz 0 (by omega)
             clear hT hb
             go_wp2_with fail
             refine (load_in p d m _ _ 0 _ (hA.below ((Below.refl _ _).setCell lc _) lp5 ld5) (by omega) (by omega)).mono ?_
             rintro e x6 ⟨rfl, _, hq⟩
             replace hBr := (hBr.setCell (p := ⟨c, 0, none⟩) (show w.heap.size ≤ c by omega) _).trans (hq.below (by omega) (by omega) (Nat.le_trans hBr.size (Nat.le_of_eq (by simp [World.setCell]))))
             go_wp2_with fail
             go_ret
             exact ⟨by simp, hBr⟩)
      · by_cases oo : 0 ≤ o ∧ o < (m : Int)
        · obtain ⟨o0, o1⟩ := oo
          by_cases t0 : 0 ≤ i
          · by_cases t1 : i < m
            · refine (load_in p d m _ _ o _ hA o0 o1).mono ?_
              rintro e x1 ⟨rfl, hA', hq⟩
              replace hBr := hBr.trans (hq.below (by omega) (by omega) hBr.size)
              clear hA hq
              have hA := hA'
              clear hA'
              go_wp2_with fail
              refine (store_in p d m _ _ i x _ hA t0 t1).mono ?_
              rintro e x2 ⟨rfl, hA', hq⟩
              replace hBr := hBr.trans (hq.below (by omega) (by omega) hBr.size)
              clear hA hq
              have hA := hA'
              clear hA'
              go_wp2_with fail
              refine (load_in p d m _ _ o _ hA o0 o1).mono ?_
              rintro e x3 ⟨rfl, hA', hq⟩
              replace hBr := hBr.trans (hq.below (by omega) (by omega) hBr.size)
              clear hA hq
              have hA := hA'
              clear hA'
              go_wp2_with fail
              refine (load_in p d m _ _ i _ hA t0 t1).mono ?_
              rintro e x4 ⟨rfl, hA', hq⟩
              replace hBr := hBr.trans (hq.below (by omega) (by omega) hBr.size)
              clear hA hq
              have hA := hA'
              clear hA'
              have hio : ¬ o.toNat = i.toNat := by omega
              simp only [if_true]
              go_wp2_with fail
              all_goals
                (obtain ⟨D9, u9, hA⟩ : ∃ D9 u9, At _ p d m D9 u9 := ⟨_, _, hA⟩
                 have lp5 := hA.lp
                 have ld5 := hA.ld
                 refine (words_any p d m _ _ _ hA (by omega) (by omega)).mono ?_
                 rintro e x5 ⟨c, cc, rfl, hT, lc, hb⟩
                 have s4 := hBr.size
                 replace hBr := stepB hBr hb
                 replace hA := hA.later hb
                 have f0 := hT.data 0 (by omega)
                 have fz0 := hT.fz 0 (by omega)
                 clear hT hb
                 go_wp2_with fail
                 refine (load_in p d m _ _ 0 _ (hA.below ((Below.refl _ _).setCell lc _) lp5 ld5) (by omega) (by omega)).mono ?_
                 rintro e x6 ⟨rfl, _, hq⟩
                 replace hBr := (hBr.setCell (p := ⟨c, 0, none⟩) (show w.heap.size ≤ c by omega) _).trans (hq.below (by omega) (by omega) (Nat.le_trans hBr.size (Nat.le_of_eq (by simp [World.setCell]))))
                 go_wp2_with fail
                 go_ret
                 exact ⟨by simp, hBr⟩)
            · refine (load_in p d m _ _ o _ hA o0 o1).mono ?_
              rintro e x1 ⟨rfl, hA', hq⟩
              replace hBr := hBr.trans (hq.below (by omega) (by omega) hBr.size)
              clear hA hq
              have hA := hA'
              clear hA'
              go_wp2_with fail
              refine (store_out p d m _ _ i x _ hA (by omega)).mono ?_
              rintro e x2 ⟨rfl, hA', hq⟩
              replace hBr := hBr.trans (hq.below (by omega) (by omega) hBr.size)
              clear hA hq
              have hA := hA'
              clear hA'
              go_wp2_with fail
              refine (load_in p d m _ _ o _ hA o0 o1).mono ?_
              rintro e x3 ⟨rfl, hA', hq⟩
              replace hBr := hBr.trans (hq.below (by omega) (by omega) hBr.size)
              clear hA hq
              have hA := hA'
              clear hA'
              go_wp2_with fail
              refine (load_out p d m _ _ i _ hA (by omega)).mono ?_
              rintro e x4 ⟨rfl, hA', hq⟩
              replace hBr := hBr.trans (hq.below (by omega) (by omega) hBr.size)
              clear hA hq
              have hA := hA'
              clear hA'
              go_wp2_with fail
              all_goals
                (obtain ⟨D9, u9, hA⟩ : ∃ D9 u9, At _ p d m D9 u9 := ⟨_, _, hA⟩
                 have lp5 := hA.lp
                 have ld5 := hA.ld
                 refine (words_any p d m _ _ _ hA (by omega) (by omega)).mono ?_
                 rintro e x5 ⟨c, cc, rfl, hT, lc, hb⟩
                 have s4 := hBr.size
                 replace hBr := stepB hBr hb
                 replace hA := hA.later hb
                 have f0 := hT.data 0 (by omega)
                 have fz0 := hT.fz 0 (by omega)
                 clear hT hb
                 go_wp2_with fail
                 refine (load_in p d m _ _ 0 _ (hA.below ((Below.refl _ _).setCell lc _) lp5 ld5) (by omega) (by omega)).mono ?_
                 rintro e x6 ⟨rfl, _, hq⟩
                 replace hBr := (hBr.setCell (p := ⟨c, 0, none⟩) (show w.heap.size ≤ c by omega) _).trans (hq.below (by omega) (by omega) (Nat.le_trans hBr.size (Nat.le_of_eq (by simp [World.setCell]))))
                 go_wp2_with fail
                 go_ret
                 exact ⟨by simp, hBr⟩)
          · refine (load_in p d m _ _ o _ hA o0 o1).mono ?_
            rintro e x1 ⟨rfl, hA', hq⟩
            replace hBr := hBr.trans (hq.below (by omega) (by omega) hBr.size)
            clear hA hq
            have hA := hA'
            clear hA'
            go_wp2_with fail
            refine (store_out p d m _ _ i x _ hA (by omega)).mono ?_
            rintro e x2 ⟨rfl, hA', hq⟩
            replace hBr := hBr.trans (hq.below (by omega) (by omega) hBr.size)
            clear hA hq
            have hA := hA'
            clear hA'
            go_wp2_with fail
            refine (load_in p d m _ _ o _ hA o0 o1).mono ?_
            rintro e x3 ⟨rfl, hA', hq⟩
            replace hBr := hBr.trans (hq.below (by omega) (by omega) hBr.size)
            clear hA hq
            have hA := hA'
            clear hA'
            go_wp2_with fail
            refine (load_out p d m _ _ i _ hA (by omega)).mono ?_
            rintro e x4 ⟨rfl, hA', hq⟩
            replace hBr := hBr.trans (hq.below (by omega) (by omega) hBr.size)
            clear hA hq
            have hA := hA'
            clear hA'
            go_wp2_with fail
            all_goals
              (obtain ⟨D9, u9, hA⟩ : ∃ D9 u9, At _ p d m D9 u9 := ⟨_, _, hA⟩
               have lp5 := hA.lp
               have ld5 := hA.ld
               refine (words_any p d m _ _ _ hA (by omega) (by omega)).mono ?_
               rintro e x5 ⟨c, cc, rfl, hT, lc, hb⟩
               have s4 := hBr.size
               replace hBr := stepB hBr hb
               replace hA := hA.later hb
               have f0 := hT.data 0 (by omega)
               have fz0 := hT.fz 0 (by omega)
               clear hT hb
               go_wp2_with fail
               refine (load_in p d m _ _ 0 _ (hA.below ((Below.refl _ _).setCell lc _) lp5 ld5) (by omega) (by omega)).mono ?_
               rintro e x6 ⟨rfl, _, hq⟩
               replace hBr := (hBr.setCell (p := ⟨c, 0, none⟩) (show w.heap.size ≤ c by omega) _).trans (hq.below (by omega) (by omega) (Nat.le_trans hBr.size (Nat.le_of_eq (by simp [World.setCell]))))
               go_wp2_with fail
               go_ret
               exact ⟨by simp, hBr⟩)
        · by_cases t0 : 0 ≤ i
          · by_cases t1 : i < m
            · refine (load_out p d m _ _ o _ hA (by omega)).mono ?_
              rintro e x1 ⟨rfl, hA', hq⟩
              replace hBr := hBr.trans (hq.below (by omega) (by omega) hBr.size)
              clear hA hq
              have hA := hA'
              clear hA'
              go_wp2_with fail
              refine (store_in p d m _ _ i x _ hA t0 t1).mono ?_
              rintro e x2 ⟨rfl, hA', hq⟩
              replace hBr := hBr.trans (hq.below (by omega) (by omega) hBr.size)
              clear hA hq
              have hA := hA'
              clear hA'
              go_wp2_with fail
              refine (load_out p d m _ _ o _ hA (by omega)).mono ?_
              rintro e x3 ⟨rfl, hA', hq⟩
              replace hBr := hBr.trans (hq.below (by omega) (by omega) hBr.size)
              clear hA hq
              have hA := hA'
              clear hA'
              go_wp2_with fail
              refine (load_in p d m _ _ i _ hA t0 t1).mono ?_
              rintro e x4 ⟨rfl, hA', hq⟩
              replace hBr := hBr.trans (hq.below (by omega) (by omega) hBr.size)
              clear hA hq
              have hA := hA'
              clear hA'
              simp only [if_true]
              go_wp2_with fail
              all_goals
                (obtain ⟨D9, u9, hA⟩ : ∃ D9 u9, At _ p d m D9 u9 := ⟨_, _, hA⟩
                 have lp5 := hA.lp
                 have ld5 := hA.ld
                 refine (words_any p d m _ _ _ hA (by omega) (by omega)).mono ?_
                 rintro e x5 ⟨c, cc, rfl, hT, lc, hb⟩
                 have s4 := hBr.size
                 replace hBr := stepB hBr hb
                 replace hA := hA.later hb
                 have f0 := hT.data 0 (by omega)
                 have fz0 := hT.fz 0 (by omega)
                 clear hT hb
                 go_wp2_with fail
                 refine (load_in p d m _ _ 0 _ (hA.below ((Below.refl _ _).setCell lc _) lp5 ld5) (by omega) (by omega)).mono ?_
                 rintro e x6 ⟨rfl, _, hq⟩
                 replace hBr := (hBr.setCell (p := ⟨c, 0, none⟩) (show w.heap.size ≤ c by omega) _).trans (hq.below (by omega) (by omega) (Nat.le_trans hBr.size (Nat.le_of_eq (by simp [World.setCell]))))
                 go_wp2_with fail
                 go_ret
                 exact ⟨by simp, hBr⟩)
            · refine (load_out p d m _ _ o _ hA (by omega)).mono ?_
              rintro e x1 ⟨rfl, hA', hq⟩
              replace hBr := hBr.trans (hq.below (by omega) (by omega) hBr.size)
              clear hA hq
              have hA := hA'
              clear hA'
              go_wp2_with fail
              refine (store_out p d m _ _ i x _ hA (by omega)).mono ?_
              rintro e x2 ⟨rfl, hA', hq⟩
              replace hBr := hBr.trans (hq.below (by omega) (by omega) hBr.size)
              clear hA hq
              have hA := hA'
              clear hA'
              go_wp2_with fail
              refine (load_out p d m _ _ o _ hA (by omega)).mono ?_
              rintro e x3 ⟨rfl, hA', hq⟩
              replace hBr := hBr.trans (hq.below (by omega) (by omega) hBr.size)
              clear hA hq
              have hA := hA'
              clear hA'
              go_wp2_with fail
              refine (load_out p d m _ _ i _ hA (by omega)).mono ?_
              rintro e x4 ⟨rfl, hA', hq⟩
              replace hBr := hBr.trans (hq.below (by omega) (by omega) hBr.size)
              clear hA hq
              have hA := hA'
              clear hA'
              go_wp2_with fail
              all_goals
                (obtain ⟨D9, u9, hA⟩ : ∃ D9 u9, At _ p d m D9 u9 := ⟨_, _, hA⟩
                 have lp5 := hA.lp
                 have ld5 := hA.ld
                 refine (words_any p d m _ _ _ hA (by omega) (by omega)).mono ?_
                 rintro e x5 ⟨c, cc, rfl, hT, lc, hb⟩
                 have s4 := hBr.size
                 replace hBr := stepB hBr hb
                 replace hA := hA.later hb
                 have f0 := hT.data 0 (by omega)
                 have fz0 := hT.fz 0 (by omega)
                 clear hT hb
                 go_wp2_with fail
                 refine (load_in p d m _ _ 0 _ (hA.below ((Below.refl _ _).setCell lc _) lp5 ld5) (by omega) (by omega)).mono ?_
                 rintro e x6 ⟨rfl, _, hq⟩
                 replace hBr := (hBr.setCell (p := ⟨c, 0, none⟩) (show w.heap.size ≤ c by omega) _).trans (hq.below (by omega) (by omega) (Nat.le_trans hBr.size (Nat.le_of_eq (by simp [World.setCell]))))
                 go_wp2_with fail
                 go_ret
                 exact ⟨by simp, hBr⟩)
          · refine (load_out p d m _ _ o _ hA (by omega)).mono ?_
            rintro e x1 ⟨rfl, hA', hq⟩
            replace hBr := hBr.trans (hq.below (by omega) (by omega) hBr.size)
            clear hA hq
            have hA := hA'
            clear hA'
            go_wp2_with fail
            refine (store_out p d m _ _ i x _ hA (by omega)).mono ?_
            rintro e x2 ⟨rfl, hA', hq⟩
            replace hBr := hBr.trans (hq.below (by omega) (by omega) hBr.size)
            clear hA hq
            have hA := hA'
            clear hA'
            go_wp2_with fail
            refine (load_out p d m _ _ o _ hA (by omega)).mono ?_
            rintro e x3 ⟨rfl, hA', hq⟩
            replace hBr := hBr.trans (hq.below (by omega) (by omega) hBr.size)
            clear hA hq
            have hA := hA'
            clear hA'
            go_wp2_with fail
            refine (load_out p d m _ _ i _ hA (by omega)).mono ?_
            rintro e x4 ⟨rfl, hA', hq⟩
            replace hBr := hBr.trans (hq.below (by omega) (by omega) hBr.size)
            clear hA hq
            have hA := hA'
            clear hA'
            go_wp2_with fail
            all_goals
              (obtain ⟨D9, u9, hA⟩ : ∃ D9 u9, At _ p d m D9 u9 := ⟨_, _, hA⟩
               have lp5 := hA.lp
               have ld5 := hA.ld
               refine (words_any p d m _ _ _ hA (by omega) (by omega)).mono ?_
               rintro e x5 ⟨c, cc, rfl, hT, lc, hb⟩
               have s4 := hBr.size
               replace hBr := stepB hBr hb
               replace hA := hA.later hb
               have f0 := hT.data 0 (by omega)
               have fz0 := hT.fz 0 (by omega)
               clear hT hb
               go_wp2_with fail
               refine (load_in p d m _ _ 0 _ (hA.below ((Below.refl _ _).setCell lc _) lp5 ld5) (by omega) (by omega)).mono ?_
               rintro e x6 ⟨rfl, _, hq⟩
               replace hBr := (hBr.setCell (p := ⟨c, 0, none⟩) (show w.heap.size ≤ c by omega) _).trans (hq.below (by omega) (by omega) (Nat.le_trans hBr.size (Nat.le_of_eq (by simp [World.setCell]))))
               go_wp2_with fail
               go_ret
               exact ⟨by simp, hBr⟩)


set_option maxRecDepth 100000 in
theorem lifted (os : Os) (started : os.Started) (H : Type) (enc : TypeId × Value → H) :
    ReturnsInHanded {} Try.checked os 4 .any (Rows.arenaKeepsSpec.pre6 enc Try.prog Try.f4 Rows.arenaKeepsRow.domain false) (Rows.arenaKeepsSpec.post enc Try.prog Try.f4 false true false false) := by
  refine returnsInHanded_of_change (C := Try.checked) own started (by kernel_rfl) Try.func4
    (ChangeSpec.witness6 (enc := enc) (C := Try.checked) false ⟨#[], #[.int .i64 0, .slice none 0 0, .int .i64 0, .int .i64 0, .int .i64 0], []⟩ 8 (by kernel_rfl) (by kernel_rfl) (by kernel_rfl) (by kernel_rfl)) ?_
  intro W base args ds gs before hval0 hW hcnd _
  have hval : ∀ (j : Nat) t v, Try.f4.params[j]? = some t → args[j]? = some v → Value.okWide Try.prog W .any base t v := hval0
  have hW' := hW
  obtain ⟨p, q, hA0, hV, rfl, hfz, hnd⟩ := hW
  have hA : DataW.TrodAll enc Try.prog W 0 (fun _ => true) true Try.f4.params.toList args.toList ds p := hA0
  rw [Try.params4] at hA hval
  obtain ⟨v0, vs0, d0, ds0, p0, q0, hargs, rfl, rfl, h0, r0⟩ := trodAll_cons hA
  obtain ⟨v1, vs1, d1, ds1, p1, q1, rfl, rfl, rfl, h1, r1⟩ := trodAll_cons r0
  obtain ⟨v2, vs2, d2, ds2, p2, q2, rfl, rfl, rfl, h2, r2⟩ := trodAll_cons r1
  obtain ⟨v3, vs3, d3, ds3, p3, q3, rfl, rfl, rfl, h3, r3⟩ := trodAll_cons r2
  obtain ⟨v4, vs4, d4, ds4, p4, q4, rfl, rfl, rfl, h4, r4⟩ := trodAll_cons r3
  obtain ⟨rfl, rfl, rfl⟩ := trodAll_nil r4
  obtain rfl : args = #[v0, v1, v2, v3, v4] := by cases args; simp_all
  obtain ⟨rfl, rfl⟩ := trodVars_none hV
  obtain ⟨n, rfl, rfl, rfl, wn⟩ := open_int Try.underlying3 (hval 0 3 v0 rfl rfl) h0
  have h1k := h1
  obtain ⟨a0, len, cap, rfl⟩ := okWide_slice Try.underlying22 (hval 1 22 v1 rfl rfl)
  obtain ⟨fuel, hf⟩ := h1
  obtain ⟨i, rfl, rfl, rfl, wi⟩ := open_int Try.underlying3 (hval 2 3 v2 rfl rfl) h2
  obtain ⟨o, rfl, rfl, rfl, wo⟩ := open_int Try.underlying3 (hval 3 3 v3 rfl rfl) h3
  obtain ⟨x, rfl, rfl, rfl, wx⟩ := open_int Try.underlying2 (hval 4 2 v4 rfl rfl) h4
  clear hA0 hval0
  simp only [List.append_nil] at hW'
  have hlt : ∀ x ∈ p1, x.block < W.heap.size := fun x hx => by simpa using hW'.lt x (by simp [hx])
  have hcall : Calls Try.prog 4 #[.int .i64 n, .slice a0 len cap, .int .i64 i, .int .i64 o, .int .i64 x] W fun e W' => e = .returned (.bool true) ∧ Below W.heap.size W W' := by
    rcases open_triples Try.underlying22 Try.underlying35 (by kernel_rfl) rfl rfl rfl (by kernel_rfl) (by kernel_rfl) (by kernel_rfl) Try.underlying3 Try.underlying3 Try.underlying2 hf with hcs | ⟨a, len', cap', K, A, X, hcs, hl, hm, hcell⟩
    · simp [Value.cells] at hcs
      obtain ⟨rfl, rfl, rfl⟩ := hcs
      by_cases hr : 1 ≤ n ∧ n ≤ 5000
      · exact walk_narrow n none 0 0 i o x W hr.1 hr.2 (by decide) (fun h => absurd h (by decide))
      · exact walk_out n none 0 0 i o x W (by decide) (by omega)
    · simp [Value.cells] at hcs
      obtain ⟨rfl, rfl, rfl⟩ := hcs
      unfold maxLen at hm
      by_cases hr : 1 ≤ n ∧ n ≤ 5000 ∧ len ≤ 200
      · refine walk_narrow n _ len cap i o x W hr.1 hr.2.1 hr.2.2 fun hl0 => ?_
        obtain ⟨b, off, spot⟩ := a
        have hspot : spot = none := by simpa [Addr.add] using World.cell?_spot (hcell 0 hl0).1
        subst hspot
        exact ⟨b, off, rfl, K, A, X, fun k hk => ⟨by have := (hcell k hk).1; rwa [add_plain] at this, by have := (hcell k hk).2.1; rwa [add_plain] at this, by have := (hcell k hk).2.2.1; rwa [add_plain] at this⟩⟩
      · exact walk_out n _ len cap i o x W (by omega) hr
  refine hcall.mono fun e W' ⟨he, hb⟩ => ?_
  subst he
  exact ⟨_, rfl, _, _, _, [], _, [], hW', trodAll_cons_mk (shut_bool Try.underlying4 _) trodAll_mk0, trodAll_cons_mk (shut_int Try.underlying3 wn) (trodAll_cons_mk (Below.trod laidOut (by kernel_rfl) (of_decide_eq_true (by kernel_rfl)) h1k hb hlt) (trodAll_cons_mk (shut_int Try.underlying3 wi) (trodAll_cons_mk (shut_int Try.underlying3 wo) (trodAll_cons_mk (shut_int Try.underlying2 wx) trodAll_mk0)))), rfl, hb.frame _, fun h => by cases h⟩

theorem said : Rows.ArenaKeepsSaid :=
  OpenClaim.holds_of_wide 4 Try.f4 rfl rfl rfl rfl rfl rfl rfl ⟨rfl, rfl, rfl, rfl, rfl⟩ rfl rfl rfl rfl rfl (by kernel_rfl) Try.func4 (by kernel_rfl)
    (of_decide_eq_true (by kernel_rfl)) (by unfold Func.isWrapper; first | (rw [if_pos (by decide +kernel)]; kernel_rfl) | (rw [if_neg (by decide +kernel)]; exact ⟨rfl, rfl⟩))
    (fun os started H enc _ => lifted os started H enc)
end Go.Proofs.Ytfkcmadnebeijaa.arenaKeeps
namespace Go.Proofs.Ytfkcmadnebeijaa
theorem arenaKeeps_said : Rows.ArenaKeepsSaid := arenaKeeps.said
end Go.Proofs.Ytfkcmadnebeijaa
