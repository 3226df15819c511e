/- ArenaPlays: for all arguments that can be read the statement's function returns true; each argument reads behind the call as before. -/
import Derived.Test.YtfkcmadnebeijaaRows
import Derived.ProofKit
import Derived.OpenShut
import Derived.Test.YtfkcmadnebeijaaArE
import Derived.Deep.RegionWith
import Derived.Deep.RegionHeld3
namespace Go.Proofs.Ytfkcmadnebeijaa.arenaPlays
open Go.ChangeShapes Go.WideShapes Go.ChangeAt Go.RowKit

theorem laidOut : laidOutB Try.prog = true := by kernel_rfl
theorem own : ownKnob Try.prog.godebug = none := by kernel_rfl
theorem bounds_i64 {a : Int} (h : (Lit.int .i64 a).wf = true) : -9223372036854775808 ≤ a ∧ a ≤ 9223372036854775807 := by
  have hmin : IntKind.i64.min = -9223372036854775808 := rfl
  have hmax : IntKind.i64.max = 9223372036854775807 := rfl
  simp only [Lit.wf, Bool.and_eq_true, decide_eq_true_eq] at h
  omega

theorem walk_out (n : Int) (a0 : Option Addr) (len cap : Nat) (w : World) (hl : len ≤ 9223372036854775807) (hr : ¬ (1 ≤ n ∧ n ≤ 5000 ∧ len ≤ 200)) :
    Calls Try.prog 3 #[.int .i64 n, .slice a0 len cap] w fun e w' => e = .returned (.bool true) ∧ Below w.heap.size w w' := by
  by_cases g1 : 5000 < n ∧ n ≤ 65536
  · obtain ⟨g1, g2⟩ := g1
    clear hr
    go_enter Try.func3, Try.ntmps3
    go_wp2_with fail
    refine (awake_any _).mono ?_
    rintro e w1 ⟨rfl, hB⟩
    go_wp2_with fail
    go_ret
    exact ⟨rfl, hB⟩
  by_cases g3 : (len : Int) > 200
  · by_cases g4 : 5000 < n
    · have g5 : 65536 < n := by omega
      clear hr g1
      go_enter Try.func3, Try.ntmps3
      go_wp2_with fail
      refine (awake_any _).mono ?_
      rintro e w1 ⟨rfl, hB⟩
      go_wp2_with fail
      go_ret
      exact ⟨rfl, hB⟩
    · clear hr g1
      go_enter Try.func3, Try.ntmps3
      go_wp2_with fail
      refine (awake_any _).mono ?_
      rintro e w1 ⟨rfl, hB⟩
      go_wp2_with fail
      go_ret
      exact ⟨rfl, hB⟩
  by_cases g4 : 5000 < n
  · have g5 : 65536 < n := by omega
    clear hr g1
    go_enter Try.func3, Try.ntmps3
    go_wp2_with fail
    refine (awake_any _).mono ?_
    rintro e w1 ⟨rfl, hB⟩
    go_wp2_with fail
    refine (new_out n (by omega) _).mono ?_
    rintro e w2 ⟨rfl, rfl⟩
    go_wp2_with fail
    refine (rnew_out n (by omega) _).mono ?_
    rintro e w3 ⟨rfl, rfl⟩
    go_wp2_with fail
    go_ret
    exact ⟨rfl, hB⟩
  · have g5 : n < 1 := by omega
    clear hr g1
    go_enter Try.func3, Try.ntmps3
    go_wp2_with fail
    refine (awake_any _).mono ?_
    rintro e w1 ⟨rfl, hB⟩
    go_wp2_with fail
    refine (new_out n (by omega) _).mono ?_
    rintro e w2 ⟨rfl, rfl⟩
    go_wp2_with fail
    refine (rnew_out n (by omega) _).mono ?_
    rintro e w3 ⟨rfl, rfl⟩
    go_wp2_with fail
    go_ret
    exact ⟨rfl, hB⟩

theorem _root_.Go.Proofs.Ytfkcmadnebeijaa.At.apart_via {w W w' : World} {p d n : Nat} {D : Nat → Int} {u : Int} (h : At w p d n D u) {p' d' : Nat} (hb : Apart p' d' W w') (hl : Like w W) (h1 : p ≠ p') (h2 : p ≠ d') (h3 : d ≠ p') (h4 : d ≠ d') : At w' p d n D u :=
  (h.like hl).apart hb h1 h2 h3 h4

theorem cell_via {p d : Nat} {w W w' : World} (hq : Apart p d W w') {a : Addr} {v : Value} (hc : w.cell? a = some v) (hl : Like w W) (h1 : a.block ≠ p) (h2 : a.block ≠ d) : w'.cell? a = some v :=
  hq.cell ((hl.cell a).trans hc) h1 h2

theorem _root_.Go.Proofs.Ytfkcmadnebeijaa.At.later_via {w W w' : World} {p d n : Nat} {D : Nat → Int} {u : Int} (h : At w p d n D u) (hb : Below W.heap.size W w') (hl : Like w W) : At w' p d n D u := (h.like hl).later hb

theorem below_via {B : Nat} {w wr W w' : World} (h : Below B w wr) (k : Below B W w') (hl : Like wr W) : Below B w w' := (h.trans (hl.below B)).trans k

theorem both_keep (w : World) (p d p2 d2 m : Nat) (D : Nat → Int) (u : Int) {W W' : World} (h : ((At W p d m D u ∧ At W p2 d2 m D u ∧ Below w.heap.size w W) ∧ W.cell? ⟨p2, 0, none⟩ = some (.slice (some ⟨d2, 0, none⟩) m m) ∧ W.cell? ⟨p2, 1, none⟩ = some (.int .i64 u))) (hb : Below W.heap.size W W') : ((At W' p d m D u ∧ At W' p2 d2 m D u ∧ Below w.heap.size w W') ∧ W'.cell? ⟨p2, 0, none⟩ = some (.slice (some ⟨d2, 0, none⟩) m m) ∧ W'.cell? ⟨p2, 1, none⟩ = some (.int .i64 u)) := by
  obtain ⟨⟨h1, h2, h3⟩, _, _⟩ := h
  exact ⟨⟨h1.later hb, h2.later hb, stepB h3 hb⟩, (h2.later hb).words, (h2.later hb).uses⟩
theorem like_below {W W' : World} (h : Like W W') : Below W.heap.size W W' := h.below _
theorem both_3 (w : World) (p d p2 d2 m : Nat) (D : Nat → Int) (u : Int) {W : World} (h : ((At W p d m D u ∧ At W p2 d2 m D u ∧ Below w.heap.size w W) ∧ W.cell? ⟨p2, 0, none⟩ = some (.slice (some ⟨d2, 0, none⟩) m m) ∧ W.cell? ⟨p2, 1, none⟩ = some (.int .i64 u))) : Below w.heap.size w W := h.1.2.2
theorem both_1 (w : World) (p d p2 d2 m : Nat) (D : Nat → Int) (u : Int) {W : World} (h : ((At W p d m D u ∧ At W p2 d2 m D u ∧ Below w.heap.size w W) ∧ W.cell? ⟨p2, 0, none⟩ = some (.slice (some ⟨d2, 0, none⟩) m m) ∧ W.cell? ⟨p2, 1, none⟩ = some (.int .i64 u))) : At W p d m D u := h.1.1
theorem both_2 (w : World) (p d p2 d2 m : Nat) (D : Nat → Int) (u : Int) {W : World} (h : ((At W p d m D u ∧ At W p2 d2 m D u ∧ Below w.heap.size w W) ∧ W.cell? ⟨p2, 0, none⟩ = some (.slice (some ⟨d2, 0, none⟩) m m) ∧ W.cell? ⟨p2, 1, none⟩ = some (.int .i64 u))) : At W p2 d2 m D u := h.1.2.1

theorem uses_bound (A u : Int) (n k : Nat) (h0 : 0 ≤ u) (h1 : u ≤ k) (hk : k ≤ 1000) : 0 ≤ dUses A n u ∧ dUses A n u ≤ ((k + 1 : Nat) : Int) := by
  unfold dUses
  split
  · unfold wrap64; omega
  · omega

set_option maxHeartbeats 8000000 in
theorem walk_narrow (n : Int) (a0 : Option Addr) (len cap : Nat) (w : World) (g1 : 1 ≤ n) (g2 : n ≤ 5000) (hlen : len ≤ 200)
    (hc : 0 < len → ∃ b off, a0 = some ⟨b, off, none⟩ ∧ ∃ K A X : Nat → Int, ∀ k, k < len → w.cell? ⟨b, off + k * 3, none⟩ = some (.int .i64 (K k)) ∧ w.cell? ⟨b, off + k * 3 + 1, none⟩ = some (.int .i64 (A k)) ∧ w.cell? ⟨b, off + k * 3 + 2, none⟩ = some (.int .i64 (X k))) :
    Calls Try.prog 3 #[.int .i64 n, .slice a0 len cap] w fun e w' => e = .returned (.bool true) ∧ Below w.heap.size w w' := by
  have HC : Hid (0 < len → ∃ b off, a0 = some ⟨b, off, none⟩ ∧ ∃ K A X : Nat → Int, ∀ k, k < len → w.cell? ⟨b, off + k * 3, none⟩ = some (.int .i64 (K k)) ∧ w.cell? ⟨b, off + k * 3 + 1, none⟩ = some (.int .i64 (A k)) ∧ w.cell? ⟨b, off + k * 3 + 2, none⟩ = some (.int .i64 (X k))) := hc
  clear hc
  go_enter Try.func3, Try.ntmps3
  go_wp2_with fail
  refine (awake_any _).mono ?_
  rintro e w1 ⟨rfl, hB⟩
  have s1 := hB.size
  go_wp2_with fail
  refine (new_in n g1 (by omega) _).mono ?_
  rintro e w2 ⟨p, d, rfl, hA, hb, lp, ld⟩
  replace hB := stepB hB hb
  clear hb
  go_wp2_with fail
  refine (rnew_in n g1 (by omega) _).mono ?_
  rintro e w3 ⟨p2, d2, rfl, hA2, hb, lp2, ld2⟩
  have m1 := hA.lp
  have m2 := hA.ld
  replace hB := stepB hB hb
  replace hA := hA.later hb
  clear hb
  have hn : (n.toNat : Int) = n := by omega
  have hm : n.toNat ≤ 5000 := by omega
  generalize n.toNat = m at *
  subst hn
  go_wp2_with fail
  have HA : Hid (At w3 p d m (fun _ => 0) 0) := hA
  have HA2 : Hid (At w3 p2 d2 m (fun _ => 0) 0) := hA2
  clear hA hA2
  go_loopw [9] (fun s wr => ∃ (k : Nat) (u : Int) (D : Nat → Int), k ≤ len ∧ 0 ≤ u ∧ u ≤ k ∧ s = .int .i64 k ∧ At wr p d m D u ∧ At wr p2 d2 m D u ∧ Below w.heap.size w wr) (fun s _ => len - (intOf s).toNat)
  case atStart => exact ⟨0, 0, _, Nat.zero_le _, Int.le_refl _, Int.le_refl _, rfl, HA.out, HA2.out, hB⟩
  case round =>
    obtain ⟨k, u, D, hk, b0, b1, rfl, hA, hA2, hBr⟩ := hrel
    by_cases hlt : k < len
    · obtain ⟨b, off, rfl, K, A, X, hcell⟩ := HC.out (by omega)
      obtain ⟨c0, c1, c2⟩ := hcell k hlt
      have hbl : b < w.heap.size := World.block_lt_of_cell? _ _ c0
      replace c0 := (hBr.cell (p := ⟨b, off + k * 3, none⟩) hbl).trans c0
      replace c1 := (hBr.cell (p := ⟨b, off + k * 3 + 1, none⟩) hbl).trans c1
      replace c2 := (hBr.cell (p := ⟨b, off + k * 3 + 2, none⟩) hbl).trans c2
      clear hcell
      generalize K k = K at *
      generalize A k = A at *
      generalize X k = X at *
      obtain ⟨ub0, ub1⟩ := uses_bound A u m k b0 b1 (by omega)
      go_wp2_with fail
      go_region_with (first
        | (go_at_call 10; refine (do_any p d m D u K A X _ ?_).mono ?_; exact hA.like ⟨rfl, rfl, rfl, rfl⟩; rintro e w4 ⟨rfl, hA3, hq⟩
           have hA23 := hA2.apart_via hq ⟨rfl, rfl, rfl, rfl⟩ (by omega) (by omega) (by omega) (by omega)
           replace hBr := below_via hBr (hq.below (B := w.heap.size) (by omega) (by omega) hBr.size) ⟨rfl, rfl, rfl, rfl⟩
           replace c0 := cell_via hq c0 ⟨rfl, rfl, rfl, rfl⟩ (show b ≠ p by omega) (show b ≠ d by omega)
           replace c1 := cell_via hq c1 ⟨rfl, rfl, rfl, rfl⟩ (show b ≠ p by omega) (show b ≠ d by omega)
           replace c2 := cell_via hq c2 ⟨rfl, rfl, rfl, rfl⟩ (show b ≠ p by omega) (show b ≠ d by omega)
           clear hA hA2 hq)
        | (go_at_call 11; refine (rdo_any p2 d2 m D u K A X _ ?_ b0 (by omega)).mono ?_; exact hA23.like ⟨rfl, rfl, rfl, rfl⟩; rintro e w5 ⟨rfl, hA4, hq⟩
           have hA34 := hA3.apart_via hq ⟨rfl, rfl, rfl, rfl⟩ (by omega) (by omega) (by omega) (by omega)
           replace hBr := below_via hBr (hq.below (B := w.heap.size) (by omega) (by omega) hBr.size) ⟨rfl, rfl, rfl, rfl⟩
           have q70 := hA4.uses
           clear hA3 hA23 hq c0 c1 c2
           generalize dWord K A m D = wv at *
           generalize dErr A m = ev at *
           generalize dUses A m u = uv at *)
        | (go_at_call 12; have q := fun (W : World) (h : Like _ W) => uses_any p d m _ _ W (hA34.like h); refine (q _ ?_).mono ?_; exact ⟨rfl, rfl, rfl, rfl⟩; rintro e w6 ⟨rfl, rfl⟩))
      all_goals (clear q q70; go_wp2_with fail)
      all_goals go_roundw
      all_goals first
        | exact ⟨k + 1, uv, _, by omega, ub0, ub1, by go_num, hA34, hA4, hBr⟩
        | (simp [intOf]; omega)
    · obtain rfl : k = len := by omega
      go_wp2_with fail
      have w2w := hA2.words
      have w2u := hA2.uses
      go_region_held3 (fun w' => ((At w' p d m D u ∧ At w' p2 d2 m D u ∧ Below w.heap.size w w') ∧ w'.cell? ⟨p2, 0, none⟩ = some (.slice (some ⟨d2, 0, none⟩) m m) ∧ w'.cell? ⟨p2, 1, none⟩ = some (.int .i64 u)))
        (first
          | assumption
          | exact both_keep w p d p2 d2 m D u (by assumption) hb
          | exact both_keep w p d p2 d2 m D u ⟨⟨hA, hA2, hBr⟩, w2w, w2u⟩ (Below.refl _ _).drew)
        (first
          | (go_at_call 14; refine (words_any p d m D u _ ?_ (by omega) (by omega)).mono ?_; exact both_1 w p d p2 d2 m D u (by assumption); rintro e w4 ⟨c, cc, rfl, hT, lc, hb⟩)
          | (go_at_call 13; refine (rwords_same _ _ d2 m D _ (by omega) ?_ ?_).mono ?_; exact fun k hk => hT.data k hk; exact fun k hk => (both_2 w p d p2 d2 m D u (by assumption)).data k hk; rintro e w5 ⟨rfl, hL⟩; have hb := like_below hL)
          | (go_at_call 15; refine (len_any p d m D u _ ?_).mono ?_; exact both_1 w p d p2 d2 m D u (by assumption); rintro e w6 ⟨rfl, rfl⟩)
          | (go_at_call 12; refine (uses_any p d m D u _ ?_).mono ?_; exact both_1 w p d p2 d2 m D u (by assumption); rintro e w7 ⟨rfl, rfl⟩))
      have hEnd : Below w.heap.size w _ := both_3 w p d p2 d2 m D u (by assumption)
      go_wp2_with fail
      go_ret
      exact ⟨rfl, hEnd⟩


set_option maxRecDepth 100000 in
theorem lifted (os : Os) (started : os.Started) (H : Type) (enc : TypeId × Value → H) :
    ReturnsInHanded {} Try.checked os 3 .any (Rows.arenaPlaysSpec.pre6 enc Try.prog Try.f3 Rows.arenaPlaysRow.domain false) (Rows.arenaPlaysSpec.post enc Try.prog Try.f3 false true false false) := by
  refine returnsInHanded_of_change (C := Try.checked) own started (by kernel_rfl) Try.func3
    (ChangeSpec.witness6 (enc := enc) (C := Try.checked) false ⟨#[], #[.int .i64 0, .slice none 0 0], []⟩ 8 (by kernel_rfl) (by kernel_rfl) (by kernel_rfl) (by kernel_rfl)) ?_
  intro W base args ds gs before hval0 hW hcnd _
  have hval : ∀ (j : Nat) t v, Try.f3.params[j]? = some t → args[j]? = some v → Value.okWide Try.prog W .any base t v := hval0
  have hW' := hW
  obtain ⟨p, q, hA0, hV, rfl, hfz, hnd⟩ := hW
  have hA : DataW.TrodAll enc Try.prog W 0 (fun _ => true) true Try.f3.params.toList args.toList ds p := hA0
  rw [Try.params3] at hA hval
  obtain ⟨v0, vs0, d0, ds0, p0, q0, hargs, rfl, rfl, h0, r0⟩ := trodAll_cons hA
  obtain ⟨v1, vs1, d1, ds1, p1, q1, rfl, rfl, rfl, h1, r1⟩ := trodAll_cons r0
  obtain ⟨rfl, rfl, rfl⟩ := trodAll_nil r1
  obtain rfl : args = #[v0, v1] := by cases args; simp_all
  obtain ⟨rfl, rfl⟩ := trodVars_none hV
  obtain ⟨n, rfl, rfl, rfl, wn⟩ := open_int Try.underlying3 (hval 0 3 v0 rfl rfl) h0
  have h1k := h1
  obtain ⟨a0, len, cap, rfl⟩ := okWide_slice Try.underlying22 (hval 1 22 v1 rfl rfl)
  obtain ⟨fuel, hf⟩ := h1
  clear hA0 hval0
  simp only [List.append_nil] at hW'
  have hlt : ∀ x ∈ p1, x.block < W.heap.size := fun x hx => by simpa using hW'.lt x (by simp [hx])
  have hcall : Calls Try.prog 3 #[.int .i64 n, .slice a0 len cap] W fun e W' => e = .returned (.bool true) ∧ Below W.heap.size W W' := by
    rcases open_triples Try.underlying22 Try.underlying35 (by kernel_rfl) rfl rfl rfl (by kernel_rfl) (by kernel_rfl) (by kernel_rfl) Try.underlying3 Try.underlying3 Try.underlying2 hf with hcs | ⟨a, len', cap', K, A, X, hcs, hl, hm, hcell⟩
    · simp [Value.cells] at hcs
      obtain ⟨rfl, rfl, rfl⟩ := hcs
      by_cases hr : 1 ≤ n ∧ n ≤ 5000
      · exact walk_narrow n none 0 0 W hr.1 hr.2 (by decide) (fun h => absurd h (by decide))
      · exact walk_out n none 0 0 W (by decide) (by omega)
    · simp [Value.cells] at hcs
      obtain ⟨rfl, rfl, rfl⟩ := hcs
      unfold maxLen at hm
      by_cases hr : 1 ≤ n ∧ n ≤ 5000 ∧ len ≤ 200
      · refine walk_narrow n _ len cap W hr.1 hr.2.1 hr.2.2 fun hl0 => ?_
        obtain ⟨b, off, spot⟩ := a
        have hspot : spot = none := by simpa [Addr.add] using World.cell?_spot (hcell 0 hl0).1
        subst hspot
        exact ⟨b, off, rfl, K, A, X, fun k hk => ⟨by have := (hcell k hk).1; rwa [add_plain] at this, by have := (hcell k hk).2.1; rwa [add_plain] at this, by have := (hcell k hk).2.2.1; rwa [add_plain] at this⟩⟩
      · exact walk_out n _ len cap W (by omega) hr
  refine hcall.mono fun e W' ⟨he, hb⟩ => ?_
  subst he
  exact ⟨_, rfl, _, _, _, [], _, [], hW', trodAll_cons_mk (shut_bool Try.underlying4 _) trodAll_mk0, trodAll_cons_mk (shut_int Try.underlying3 wn) (trodAll_cons_mk (Below.trod laidOut (by kernel_rfl) (of_decide_eq_true (by kernel_rfl)) h1k hb hlt) trodAll_mk0), rfl, hb.frame _, fun h => by cases h⟩

theorem said : Rows.ArenaPlaysSaid :=
  OpenClaim.holds_of_wide 3 Try.f3 rfl rfl rfl rfl rfl rfl rfl ⟨rfl, rfl, rfl, rfl, rfl⟩ rfl rfl rfl rfl rfl (by kernel_rfl) Try.func3 (by kernel_rfl)
    (of_decide_eq_true (by kernel_rfl)) (by unfold Func.isWrapper; first | (rw [if_pos (by decide +kernel)]; kernel_rfl) | (rw [if_neg (by decide +kernel)]; exact ⟨rfl, rfl⟩))
    (fun os started H enc _ => lifted os started H enc)
end Go.Proofs.Ytfkcmadnebeijaa.arenaPlays
namespace Go.Proofs.Ytfkcmadnebeijaa
theorem arenaPlays_said : Rows.ArenaPlaysSaid := arenaPlays.said
end Go.Proofs.Ytfkcmadnebeijaa
