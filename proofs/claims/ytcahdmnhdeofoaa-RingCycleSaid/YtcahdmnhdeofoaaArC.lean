/- All words of an arena, and a new arena that is refused. -/
import Derived.Test.YtcahdmnhdeofoaaArB
import Derived.Deep.RegionHeld
namespace Go.Proofs.Ytcahdmnhdeofoaa
open Go.RowKit

/-- Words told: in new memory. -/
structure Told (w : World) (c n : Nat) (D : Nat → Int) : Prop where
  data : ∀ k, k < n → w.cell? ⟨c, k, none⟩ = some (.int .i64 (D k))
  fz : ∀ k, k < n → w.frozen? ⟨c, k, none⟩ = false
  lc : c < w.heap.size

theorem Told.later {w w' : World} {c n : Nat} {D : Nat → Int} (h : Told w c n D) (hb : Below w.heap.size w w') : Told w' c n D :=
  ⟨fun k hk => (hb.cell h.lc).trans (h.data k hk), fun k hk => (hb.frozen h.lc).trans (h.fz k hk), Nat.lt_of_lt_of_le h.lc hb.size⟩

set_option maxHeartbeats 2000000 in
set_option maxRecDepth 100000 in
theorem clone_any (d n : Nat) (D : Nat → Int) (w : World) (hbig : n ≤ 65536) (h0 : 0 < n) (hc : ∀ k, k < n → w.cell? ⟨d, k, none⟩ = some (.int .i64 (D k))) :
    Calls Try.prog 37 #[.slice (some ⟨d, 0, none⟩) n n] w fun e w' => ∃ c cap, e = .returned (.slice (some ⟨c, 0, none⟩) n cap) ∧ Told w' c n D ∧ w.heap.size ≤ c ∧ Below w.heap.size w w' := by
  obtain ⟨i0, hi, hz0, hz1, hz2⟩ := info_parts Try.info_i64
  have q : ∀ (w : World) (a : Option Addr) (n c n' c' : Nat), (binOp .eql 47 (.slice a n c) (.slice none n' c')).run Try.prog w = .ok (.bool a.isNone) w := fun w a n c n' c' => Lib.run_eql_slice_nil w _ _ a n c n' c' Try.underlying47
  have A : Hid (∀ k, k < n → w.cell? ⟨d, k, none⟩ = some (.int .i64 (D k))) := hc
  have A0 : Hid (0 < n) := h0
  clear hc h0
  go_enter Try.func37, Try.ntmps37
  go_wp2_with (at_builtin; refine wpList_append_own _ rfl _ _ 47 rfl w.heap.size 2 i0 (.int .i64 0) 1 8 Try.underlying47 hi hz0 hz1 hz2 rfl (by decide) _ _ _ rfl (World.ownsRow_made w #[] 0 (Nat.le_refl _) (Nat.zero_le _) rfl) ⟨d, 0, none⟩ n n ((List.range n).map (fun k => Value.int .i64 (D k))) rfl ?qc1 ?qc2 ?qc3 ?qc4 ?qc5 ?qc6 ?_)
  case qc1 => simp
  case qc2 =>
    intro j u hj
    have hjn : j < n := by
      have := (List.getElem?_eq_some_iff.1 hj).1
      simpa using this
    rw [Addr.add_lit]
    have hcell := A.out j hjn
    have e : ((List.range n).map (fun k => Value.int .i64 (D k)))[j]? = some (Value.int .i64 (D j)) := by simp [hjn]
    rw [e] at hj
    refine (World.cell?_alloc_some _ _ _ ?_).trans ?_
    · simp [hcell]
    · simpa using hcell.trans hj
  case qc3 => intro u hu; obtain ⟨x, _, rfl⟩ := List.mem_map.1 hu; rfl
  case qc4 => unfold maxLen; omega
  case qc5 => omega
  case qc6 => simp
  intro v' w1 hown hgrow hnil
  have hb : Below w.heap.size w w1 := ((Below.refl _ w).alloc (Nat.le_refl _) _).grown hgrow (by simp) (by intro k hk; simp [Value.ownBlock] at hk; omega)
  have h0 := A0.out
  clear hgrow hnil
  go_wp2
  go_ret
  obtain ⟨_, hv⟩ := hown
  rcases hv with ⟨_, hv⟩ | ⟨g, cap, cur, rfl, hg, hh, h1, h2, h3, h4⟩
  · omega
  · have hcells : ∀ k, k < n → w1.cell? ⟨g, k, none⟩ = some (.int .i64 (D k)) := by
      intro k hk
      unfold World.cell?
      rw [hh]
      have e : cur[k]? = some (.int .i64 (D k)) := by
        have := congrArg (fun l => l[k]?) h4
        simpa [hk, List.getElem?_take] using this
      simp [e]
    have hl : g < w1.heap.size := World.block_lt_of_cell? _ _ (hcells 0 h0)
    refine ⟨g, cap, by simp, ⟨hcells, fun k hk => ?_, hl⟩, hg, hb⟩
    unfold World.frozen?
    rw [hh]
    simp

theorem words_any (p d n : Nat) (D : Nat → Int) (u : Int) (w : World) (hA : At w p d n D u) (hbig : n ≤ 65536) (h0 : 0 < n) :
    Calls Try.prog 17 #[.pointer (some ⟨p, 0, none⟩)] w fun e w' => ∃ c cap, e = .returned (.slice (some ⟨c, 0, none⟩) n cap) ∧ Told w' c n D ∧ w.heap.size ≤ c ∧ Below w.heap.size w w' := by
  have hw := hA.words
  go_enter Try.func17, Try.ntmps17
  go_wp2_with fail
  refine (clone_any d n D w hbig h0 hA.data).mono ?_
  rintro e w' ⟨c, cap, rfl, h1, h2, h3⟩
  go_wp2
  go_ret
  exact ⟨c, cap, rfl, h1, h2, h3⟩

theorem new_out (n : Int) (ho : ¬ (1 ≤ n ∧ n ≤ 65536)) (w : World) :
    Calls Try.prog 29 #[.int .i64 n] w fun e w' => e = .returned (.tuple #[.pointer none, .int .i64 1]) ∧ w' = w := by
  by_cases g1 : n < 1
  · go_enter Try.func29, Try.ntmps29
    go_wp2
    go_ret2
    exact ⟨rfl, rfl⟩
  · have g2 : n > 65536 := by omega
    clear ho
    go_enter Try.func29, Try.ntmps29
    go_wp2
    go_ret2
    exact ⟨rfl, rfl⟩

theorem stepB {w W W' : World} (h : Below w.heap.size w W) (hb : Below W.heap.size W W') : Below w.heap.size w W' := h.trans (hb.mono h.size)

end Go.Proofs.Ytcahdmnhdeofoaa
