/- New, isBound; indexFor: where in the list a run goes. -/
import Derived.Test.YtbjlpmjalidfkaaExF
import Derived.Deep.RegionWith
namespace Go.Proofs.Ytbjlpmjalidfkaa.Ex
open Go.RowKit Go.Sort

theorem asks_ahead (a n : Int) (L : List (Int × Int)) (w : World) :
    Asks 108 (fun v => #[.agg #[.int .i64 a, .int .i64 n], v]) (fun x => decide (a < x.1)) L w := fun W x _ _ => ahead_any a n x.1 x.2 W
theorem enters_ahead : ∀ args w, (callFunc 108 args).run Try.prog w = .ok (.enter 108 args) w := enters_of Try.func108 (by kernel_rfl) rfl
theorem asks_meets (a n : Int) (L : List (Int × Int)) (w : World) (h0 : 0 ≤ a) (h1 : 0 ≤ n) (h2 : a + n ≤ 1000000) (hL : ∀ x, x ∈ L → 0 ≤ x.1 ∧ 0 ≤ x.2 ∧ x.1 + x.2 ≤ 1000000) :
    Asks 94 (fun v => #[.agg #[.int .i64 a, .int .i64 n], v]) (fun x => decide (a < x.1 + x.2) && decide (x.1 < a + n)) L w := fun W x hx _ => by
  have := hL x hx
  exact meets_any a n x.1 x.2 W (by omega) (by omega) (by omega) (by omega)
theorem enters_meets : ∀ args w, (callFunc 94 args).run Try.prog w = .ok (.enter 94 args) w := enters_of Try.func94 (by kernel_rfl) rfl

set_option maxHeartbeats 1000000 in
set_option maxRecDepth 100000 in
theorem isBound_any (n : Int) (w : World) :
    Calls Try.prog 81 #[.int .i64 n] w fun e w' => e = .returned (.bool (decide (0 ≤ n ∧ n ≤ 65536))) ∧ w' = w := by
  by_cases h : 0 ≤ n
  · go_enter Try.func81, Try.ntmps81
    go_wp2
    go_ret
    exact ⟨by simp [h], rfl⟩
  · go_enter Try.func81, Try.ntmps81
    go_wp2
    go_ret
    have : ¬ 0 ≤ n := by omega
    exact ⟨by simp [this], rfl⟩

set_option maxHeartbeats 4000000 in
set_option maxRecDepth 100000 in
/-- indexFor: the first run that begins behind it; else the end. -/
theorem indexFor_any (p g cap i : Nat) (F N : Int) (A B : List (Int × Int)) (a n : Int) (w : World) (hA : At w p g cap F N (A ++ B)) (hi : A.length = i) (hlt : ∀ x, x ∈ A → x.1 ≤ a) (hgt : ∀ y B', B = y :: B' → a < y.1) :
    Calls Try.prog 95 #[.pointer (some ⟨p, 0, none⟩), .agg #[.int .i64 a, .int .i64 n]] w fun e w' => e = .returned (.int .i64 i) ∧ Below w.heap.size w w' := by
  have hb := ((Below.refl w.heap.size w).alloc (Nat.le_refl _) (.cells #[.int .i64 a, .int .i64 n] 145))
  have hb2 := hb.drew
  have hA1 := hA.later hb2
  have lp := hA.lp
  have hf := hA.free
  obtain ⟨m, hm⟩ : ∃ m, (A ++ B).length = m := ⟨_, rfl⟩
  rw [hm] at hf
  cases B with
  | nil =>
    rw [List.append_nil] at hA1 hm
    have him : i = m := by rw [← hi, ← hm]
    have H := Lib.hid (index_miss_pre (w.alloc (.cells #[.int .i64 a, .int .i64 n] 145)).drew 108 (.agg #[.int .i64 a, .int .i64 n]) (fun x => decide (a < x.1)) enters_ahead g cap m A hA1.own (asks_ahead a n _ _) hm (fun y hy => by have := hlt y hy; simp; omega))
    subst him
    have HB := Lib.hid hb2
    have HA := Lib.hid hA1
    have HM := Lib.hid hm
    clear hA hA1 hlt hgt hm hi hb hb2
    go_enter Try.func95, Try.ntmps95
    go_wp2_with fail
    go_region_with (go_at_call 102; refine H.out.mono ?_; rintro e w2 ⟨rfl, hb3⟩)
    all_goals
      have hA2 := HA.out.later hb3
      have hf2 := hA2.free
      rw [HM.out] at hf2
      have hE := onB HB.out hb3
      have lp2 := hA2.lp
      clear hb3 hA2 hf
      go_wp2_with fail
      go_ret
      exact ⟨rfl, hE⟩
  | cons y B' =>
    have hy := hgt y B' rfl
    have H := Lib.hid (index_hit_pre (w.alloc (.cells #[.int .i64 a, .int .i64 n] 145)).drew 108 (.agg #[.int .i64 a, .int .i64 n]) (fun x => decide (a < x.1)) enters_ahead g cap m i A B' y hA1.own (asks_ahead a n _ _) hm hi (fun z hz => by have := hlt z hz; simp; omega) (by simp; omega))
    have HB := Lib.hid hb2
    have him : i ≤ 9223372036854775807 := by
      obtain ⟨S, _, _, h1, h2⟩ := hA.own.heap
      unfold maxLen at h2
      rw [hm] at h1
      rw [← hi]
      have : A.length ≤ m := by rw [← hm]; simp
      omega
    clear hA hA1 hlt hgt hm hi hb hb2 hy
    go_enter Try.func95, Try.ntmps95
    go_wp2_with fail
    go_region_with (go_at_call 102; refine H.out.mono ?_; rintro e w2 ⟨rfl, hb3⟩)
    all_goals
      have hE := onB HB.out hb3
      clear hb3 hf
      go_wp2_with fail
      go_ret
      exact ⟨rfl, hE⟩

end Go.Proofs.Ytbjlpmjalidfkaa.Ex
