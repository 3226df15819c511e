/- LexKinds: its walk. -/
import Derived.Test.YtkeeglpbhjnmdaaDoorLxQ
import Derived.Test.YtkeeglpbhjnmdaaDoorLinV
import Derived.Deep.QuietTactic
import Derived.BigQuiet
namespace Go.Proofs.YtkeeglpbhjnmdaaDoor
open Go.RowKit Go.Lib

theorem kdrewN {B : Nat} {w W : World} (h : Below B w W) (n : Nat) : Below B w (W.drewN n) := ⟨h.os, h.tape, h.output, h.size, h.block⟩

set_option maxHeartbeats 16000000 in
set_option maxRecDepth 100000 in
theorem kinds_walk (s : ByteArray) (w : World) (hS : SG w) (hE : EE w) :
    Calls Tryd.prog 6 #[.string s] w fun e w' => e = .returned (.bool true) ∧ Below w.heap.size w w' := by
  have HSE := Lib.hid (And.intro hS hE)
  clear hS hE
  go_enter Tryd.func6, Tryd.ntmps6
  go_wp2_with fail
  refine (lawake_any w HSE.out.1 HSE.out.2).mono ?_
  rintro e w1 ⟨rfl, hb⟩
  have H1 := Lib.hid (And.intro hb (And.intro (HSE.out.1.below hb) (HSE.out.2.below hb)))
  clear hb HSE
  by_cases g3 : 5000 < s.size
  · have f3 : decide ((5000 : Int) < (s.size : Int)) = true := decide_eq_true (by omega)
    go_wp2_with fail
    go_ret
    exact ⟨rfl, H1.out.1⟩
  have f3 : decide ((5000 : Int) < (s.size : Int)) = false := decide_eq_false (by omega)
  have HL1 := Lib.hid (lex_any s (by omega) w1 H1.out.2.1 H1.out.2.2)
  go_wp2_with fail
  clear f3
  refine HL1.out.mono ?_
  intro e w2 h2
  obtain ⟨T, a1, c1, er, line, rfl, hown, hb2, hv⟩ := h2.view
  have hT : ToksOk T := by
    rcases hv with ⟨e, -, -⟩ | ⟨-, rfl⟩
    · exact lexL_ok e
    · exact ⟨fun x hx => (by cases hx), List.Pairwise.nil⟩
  have H2 := Lib.hid (And.intro (onB' H1.out.1 hb2) (And.intro hown hT))
  clear h2 hown hb2 hv hT HL1
  go_wp2_with fail
  go_loopw [6] (fun s6 wr => ∃ j : Nat, j ≤ T.length ∧ s6 = .int .i64 j ∧ Below w2.heap.size w2 wr) (fun s6 _ => T.length - (RowKit.intOf s6).toNat)
  case atStart => exact ⟨0, Nat.zero_le _, rfl, Below.refl _ _⟩
  case round =>
    obtain ⟨j, hj, rfl, hbr⟩ := hrel
    have HBR := Lib.hid hbr
    clear hbr
    by_cases gj : j < T.length
    · have gj' : (j : Int) < (T.length : Int) := by omega
      obtain ⟨g1, ea1, ht1⟩ := own_tok H2.out.2.1 gj
      obtain ⟨hl1, c, t, htx, hok⟩ := H2.out.2.2.ok _ (List.getElem_mem gj)
      -- the line ahead
      have hprev : j = 0 ∨ ∃ (i : Nat) (lp : Int), i + 1 = j ∧ (i : Int) < (T.length : Int) ∧ w2.cell? ⟨g1, i * 5 + 4, none⟩ = some (.int .i64 lp) ∧ lp ≤ T[j].2 := by
        rcases Nat.eq_zero_or_pos j with e | e
        · exact Or.inl e
        · have hi : j - 1 < T.length := by omega
          obtain ⟨g2, ea2, ht2⟩ := own_tok H2.out.2.1 hi
          rw [ea1] at ea2
          cases ea2
          exact Or.inr ⟨j - 1, T[j - 1].2, by omega, by omega, ht2.c4, List.pairwise_iff_getElem.1 H2.out.2.2.up (j - 1) j hi gj (by omega)⟩
      subst ea1
      replace ht1 := ht1.later HBR.out
      generalize T[j] = tk at *
      obtain ⟨⟨kd, tx, ff, xx⟩, ln⟩ := tk
      simp only at hl1 htx hok hprev
      have hmx := own_max H2.out.2.1
      unfold maxLen at hmx
      have ej : IntKind.i64.wrap ((j : Int) + 1) = (j : Int) + 1 := by rw [IntKind.wrap_i64]; omega
      obtain ⟨p0, p1, p2, p3, p4⟩ := ht1
      simp only at p0 p1 p2 p3 p4
      have hbt : (⟨tx.toArray⟩ : ByteArray).data.toList = c :: t := by rw [back_list]; exact htx
      have hWay := ways hok
      rw [htx] at hWay
      clear hok htx
      generalize (⟨tx.toArray⟩ : ByteArray) = bt at *
      have hbz : 0 < bt.size := by rw [size_eq, hbt]; simp
      have hb0 : bt[0]'hbz = c := by
        have e : bt[0]'hbz = bt.data.toList[0]'(by rw [hbt]; simp) := rfl
        rw [e]
        simp only [hbt, List.getElem_cons_zero]
      have hbe : (bt.toList == []) = false := by rw [ByteArray.toList_eq, hbt]; rfl
      have hl : decide (ln < (1 : Int)) = false := decide_eq_false (by omega)
      have he := fun W => num_neq W
      have HK := Lib.hid (fun W => kind_any bt c t hbt W)
      have hx := (Below.refl wr.heap.size wr).alloc (Nat.le_refl _) (.cells #[.int .i64 kd, .string bt, .bool ff, .int .u64 xx, .int .i64 ln] 35)
      have x0 : (wr.alloc (.cells #[.int .i64 kd, .string bt, .bool ff, .int .u64 xx, .int .i64 ln] 35)).cell? ⟨wr.heap.size, 0, none⟩ = some (.int .i64 kd) := by simp [go_sem]
      have x1 : (wr.alloc (.cells #[.int .i64 kd, .string bt, .bool ff, .int .u64 xx, .int .i64 ln] 35)).cell? ⟨wr.heap.size, 1, none⟩ = some (.string bt) := by simp [go_sem]
      have x2 : (wr.alloc (.cells #[.int .i64 kd, .string bt, .bool ff, .int .u64 xx, .int .i64 ln] 35)).cell? ⟨wr.heap.size, 2, none⟩ = some (.bool ff) := by simp [go_sem]
      have x3 : (wr.alloc (.cells #[.int .i64 kd, .string bt, .bool ff, .int .u64 xx, .int .i64 ln] 35)).cell? ⟨wr.heap.size, 3, none⟩ = some (.int .u64 xx) := by simp [go_sem]
      have x4 : (wr.alloc (.cells #[.int .i64 kd, .string bt, .bool ff, .int .u64 xx, .int .i64 ln] 35)).cell? ⟨wr.heap.size, 4, none⟩ = some (.int .i64 ln) := by simp [go_sem]
      have HX := Lib.hid (onB' HBR.out hx)
      have HP := Lib.hid hprev
      clear hx hbt hprev hl1
      go_upto_region 10 with fail
      clear p0 p1 p2 p3 p4
      generalize (wr.alloc (.cells #[.int .i64 kd, .string bt, .bool ff, .int .u64 xx, .int .i64 ln] 35)) = W4 at *
      generalize wr.heap.size = xb at *
      have HC := Lib.hid (And.intro x0 (And.intro x1 (And.intro x2 (And.intro x3 x4))))
      rcases hWay with hWay | hWay | hWay | hWay | hWay | hWay | hWay | hWay | hWay | hWay | hWay | hWay | hWay | hWay
      all_goals
        first
        | (obtain ⟨rfl, ⟨f97, f122, f65, f90, f48, f57, q35⟩, hrk, rfl, rfl⟩ := hWay
           go_wp2_with fail
           refine (HK.out _).mono ?_
           rw [hrk]
           rintro e w5 ⟨rfl, hb5⟩
           have HB5 := Lib.hid (onB' HX.out hb5)
           obtain ⟨x0, x1, x2, x3, x4⟩ := HC.out
           replace x0 := later' hb5 x0
           replace x1 := later' hb5 x1
           replace x2 := later' hb5 x2
           replace x3 := later' hb5 x3
           replace x4 := later' hb5 x4
           clear hb5 hrk)
        | (have HB5 := Lib.hid HX.out
           first
           | obtain ⟨rfl, ⟨f97, f122, f65, f90, f48, f57, q35⟩, rfl, rfl⟩ := hWay
           | obtain ⟨rfl, f97, f122, f65, f90, f48, f57, q35⟩ := hWay
           generalize W4 = w5 at *)
      all_goals
        rcases HP.out with e0 | ⟨i, lp, hij, hiT, hc, hle⟩
        · have f0 : decide (0 < j) = false := decide_eq_false (by omega)
          go_wp2_with fail
          have HXD := Lib.hid (fun n => kdrewN HB5.out n)
          go_quiet (fail)
          all_goals go_wp2_with fail
          all_goals exact ⟨⟨j + 1, by omega, by go_num, HXD.out _⟩, by simp [RowKit.intOf]; omega⟩
        · have f0 : decide (0 < j) = true := decide_eq_true (by omega)
          have ei : IntKind.i64.wrap ((j : Int) - 1) = (i : Int) := by rw [IntKind.wrap_i64]; omega
          have yc := later' HB5.out hc
          have fl : decide (ln < lp) = false := decide_eq_false (by omega)
          have gi0 : (0 : Int) ≤ (i : Int) := by omega
          clear hc hle
          go_wp2_with fail
          have HXD := Lib.hid (fun n => kdrewN HB5.out n)
          go_quiet (fail)
          all_goals go_wp2_with fail
          all_goals exact ⟨⟨j + 1, by omega, by go_num, HXD.out _⟩, by simp [RowKit.intOf]; omega⟩
    · obtain rfl : j = T.length := by omega
      go_wp2_with fail
      go_ret
      exact ⟨rfl, onB' H2.out.1 HBR.out⟩

end Go.Proofs.YtkeeglpbhjnmdaaDoor
