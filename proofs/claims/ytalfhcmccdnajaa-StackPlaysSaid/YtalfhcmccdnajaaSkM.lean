/- The document's questions on frames; the calls of an argument, opened; few. -/
import Derived.Test.YtalfhcmccdnajaaSkA
import Derived.Deep.Slices
import Derived.Deep.SlicePairs
import Derived.OpenShut
import Derived.ProofKit
namespace Go.Proofs.Ytalfhcmccdnajaa
open Go.RowKit Go.Sort

instance : Inhabited Fr := ⟨⟨0, 0, [], none, 0⟩⟩
/-- The calls of an argument. -/
structure Acts (w : World) (a0 : Option Addr) (len : Nat) (X : Nat → Int) (F : Nat → Fr) : Prop where
  at_ : 0 < len → ∃ b off, a0 = some ⟨b, off, none⟩ ∧ b < w.heap.size ∧ ∀ k, k < len → w.cell? ⟨b, off + k * 4, none⟩ = some (.int .i64 (X k)) ∧ w.cell? ⟨b, off + k * 4 + 1, none⟩ = some (.int .i64 (F k).k) ∧ w.cell? ⟨b, off + k * 4 + 2, none⟩ = some (.int .i64 (F k).n) ∧ w.cell? ⟨b, off + k * 4 + 3, none⟩ = some (.slice (F k).a (F k).ws.length (F k).c)
  ws : ∀ k, k < len → WAt (fun _ => True) w (F k)
  le : len ≤ 9223372036854775807

section
open Go.Deep Go.ChangeShapes Go.WideShapes
variable {H : Type} {enc : TypeId × Value → H} {P : Program} {w : World} {base : Nat} {spare : Nat → Bool} {held : Bool}
/-- A slice of integers, opened at every index. -/
theorem open_row {t e : TypeId} {fuel : Nat} {cs : List Value} {x : DataW H × List MemPlace} (ht : P.underlying t = some (.slice e)) (he : P.underlying e = some (.int .i64)) (ce : P.cellsOf e = 1)
    (h : DataW.trod enc P w base spare held fuel t cs = some x) :
    cs = [.slice none 0 0] ∨
    ∃ (a : Addr) (len cap : Nat) (A : Nat → Int), cs = [.slice (some a) len cap] ∧ len ≤ cap ∧ cap ≤ maxLen ∧ ∀ i, i < len → w.cell? (a.add i) = some (.int .i64 (A i)) ∧ (Lit.int .i64 (A i)).wf = true := by
  rcases open_slice ht h with ⟨h0, _⟩ | ⟨a, len, cap, m, n, D, Pl, rfl, hb, hl, hm, hmm, rfl, hx⟩
  · exact Or.inl h0
  right
  have hlm : len ≤ m := by rw [hmm]; split <;> omega
  have each : ∀ i, i < len → ∃ q : Int, w.cell? (a.add i) = some (.int .i64 q) ∧ (Lit.int .i64 q).wf = true := by
    intro i hi
    obtain ⟨cs', h1, h2⟩ := hx i (by omega)
    rw [ce] at h1
    obtain ⟨_, hlen, hcell⟩ := World.cells?_some h1
    match cs', hlen with
    | [v0], _ =>
      have e0 := hcell 0 (by omega)
      rw [add_add] at e0
      obtain ⟨z0, hz0, _, w0⟩ := DataW.trod_int he h2
      obtain rfl : v0 = .int .i64 z0 := by simpa using hz0
      exact ⟨z0, by simpa using e0, w0⟩
  obtain ⟨q, hq⟩ := choose_lt each
  exact ⟨a, len, cap, q, rfl, hl, hm, hq⟩
/-- The words of a frame. -/
theorem words_of {fuel : Nat} {c : Value} {x : DataW H × List MemPlace} (h : DataW.trod enc Try.prog w base spare held fuel 35 [c] = some x) : ∃ ws a cp, c = .slice a ws.length cp ∧ ∀ k n, WAt (fun _ => True) w ⟨k, n, ws, a, cp⟩ := by
  rcases open_row Try.underlying35 Try.underlying2 (by kernel_rfl) h with hcs | ⟨a, len, cap, A, hcs, hl, hm, hcell⟩
  · simp at hcs
    subst hcs
    exact ⟨[], none, 0, rfl, fun k n => ⟨Nat.zero_le _, fun h0 => absurd h0 (Nat.lt_irrefl _)⟩⟩
  · simp at hcs
    subst hcs
    refine ⟨(List.range len).map A, some a, cap, by simp, fun k n => ⟨by simp; omega, fun h0 => ?_⟩⟩
    simp only [List.length_map, List.length_range] at h0 ⊢
    obtain ⟨b, off, sp⟩ := a
    have hspot : sp = none := by simpa [Addr.add] using World.cell?_spot (hcell 0 h0).1
    subst hspot
    refine ⟨b, off, rfl, hl, ?_, trivial, fun i y hy => ?_⟩
    · have := World.block_lt_of_cell? _ _ (hcell 0 h0).1
      rwa [addr_at] at this
    · have hi : i < len := by have := (List.getElem?_eq_some_iff.1 hy).1; simpa using this
      have hc := (hcell i hi).1
      rw [addr_at] at hc
      rw [List.getElem?_map, List.getElem?_range hi] at hy
      simp only [Option.map_some, Option.some.injEq] at hy
      rw [hc, hy]

theorem acts_cells {t e : TypeId} {fuel : Nat} {cs : List Value} {x : DataW H × List MemPlace} {f0 f1 h0 h1 h2 : Field} (ht : P.underlying t = some (.slice e)) (he : P.underlying e = some (.struct #[f0, f1])) (hf : P.underlying f1.type = some (.struct #[h0, h1, h2]))
    (ce : P.cellsOf e = 4) (o0 : f0.offset = 0) (o1 : f1.offset = 1) (c0 : P.cellsOf f0.type = 1) (c1 : P.cellsOf f1.type = 3) (p0 : h0.offset = 0) (p1 : h1.offset = 1) (p2 : h2.offset = 2) (d0 : P.cellsOf h0.type = 1) (d1 : P.cellsOf h1.type = 1) (d2 : P.cellsOf h2.type = 1)
    (u0 : P.underlying f0.type = some (.int .i64)) (u1 : P.underlying h0.type = some (.int .i64)) (u2 : P.underlying h1.type = some (.int .i64))
    (h : DataW.trod enc P w base spare held fuel t cs = some x) :
    cs = [.slice none 0 0] ∨
    ∃ (a : Addr) (len cap : Nat) (q : Nat → Int × Int × Int × Value), cs = [.slice (some a) len cap] ∧ len ≤ cap ∧ cap ≤ maxLen ∧
      ∀ i, i < len → w.cell? (a.add (i * 4)) = some (.int .i64 (q i).1) ∧ w.cell? (a.add (i * 4 + 1)) = some (.int .i64 (q i).2.1) ∧ w.cell? (a.add (i * 4 + 2)) = some (.int .i64 (q i).2.2.1) ∧ w.cell? (a.add (i * 4 + 3)) = some (q i).2.2.2 ∧ ∃ fuel x, DataW.trod enc P w base spare held fuel h2.type [(q i).2.2.2] = some x := by
  rcases open_slice ht h with ⟨h0', _⟩ | ⟨a, len, cap, m, n, D, Pl, rfl, hb, hl, hm, hmm, rfl, hx⟩
  · exact Or.inl h0'
  right
  have hlm : len ≤ m := by rw [hmm]; split <;> omega
  have each : ∀ i, i < len → ∃ q : Int × Int × Int × Value, w.cell? (a.add (i * 4)) = some (.int .i64 q.1) ∧ w.cell? (a.add (i * 4 + 1)) = some (.int .i64 q.2.1) ∧ w.cell? (a.add (i * 4 + 2)) = some (.int .i64 q.2.2.1) ∧ w.cell? (a.add (i * 4 + 3)) = some q.2.2.2 ∧ ∃ fuel x, DataW.trod enc P w base spare held fuel h2.type [q.2.2.2] = some x := by
    intro i hi
    obtain ⟨cs', g1, g2⟩ := hx i (by omega)
    rw [ce] at g1
    obtain ⟨_, hlen, hcell⟩ := World.cells?_some g1
    obtain ⟨xs, k, hk, hxy, _, hxl, hfd⟩ := DataW.trod_struct he g2
    match xs, hxl, cs', hlen with
    | [y0, y1], _, [v0, v1, v2, v3], _ =>
      have q0 := hfd 0 f0 rfl
      have q1 := hfd 1 f1 rfl
      simp [o0, o1, c0, c1] at q0 q1
      obtain ⟨ys, k2, hk2, hxy2, _, hyl, hfe⟩ := DataW.trod_struct hf q1
      match ys, hyl with
      | [z0, z1, z2], _ =>
        have r0 := hfe 0 h0 rfl
        have r1 := hfe 1 h1 rfl
        have r2 := hfe 2 h2 rfl
        simp [p0, p1, p2, d0, d1, d2] at r0 r1 r2
        have e0 := hcell 0 (by omega)
        have e1 := hcell 1 (by omega)
        have e2 := hcell 2 (by omega)
        have e3 := hcell 3 (by omega)
        rw [add_add] at e0 e1 e2 e3
        obtain ⟨n0, hn0, _, _⟩ := DataW.trod_int u0 q0
        obtain ⟨n1, hn1, _, _⟩ := DataW.trod_int u1 r0
        obtain ⟨n2, hn2, _, _⟩ := DataW.trod_int u2 r1
        obtain rfl : v0 = .int .i64 n0 := by simpa using hn0
        obtain rfl : v1 = .int .i64 n1 := by simpa using hn1
        obtain rfl : v2 = .int .i64 n2 := by simpa using hn2
        exact ⟨(n0, n1, n2, v3), by simpa using e0, by simpa using e1, by simpa using e2, by simpa using e3, _, _, r2⟩
  obtain ⟨q, hq⟩ := choose_lt each
  exact ⟨a, len, cap, q, rfl, hl, hm, hq⟩

theorem acts_of {fuel : Nat} {a0 : Option Addr} {len cap : Nat} {x : DataW H × List MemPlace}
    (h : DataW.trod enc Try.prog w base spare held fuel 22 [.slice a0 len cap] = some x) : ∃ X F, Acts w a0 len X F := by
  rcases acts_cells Try.underlying22 Try.underlying42 Try.underlying37 (by kernel_rfl) rfl rfl (by kernel_rfl) (by kernel_rfl) rfl rfl rfl (by kernel_rfl) (by kernel_rfl) (by kernel_rfl) Try.underlying3 Try.underlying3 Try.underlying3 h with hcs | ⟨a, len', cap', q, hcs, hl, hm, hcell⟩
  · simp at hcs
    obtain ⟨rfl, rfl, rfl⟩ := hcs
    exact ⟨fun _ => 0, fun _ => ⟨0, 0, [], none, 0⟩, fun h => absurd h (Nat.lt_irrefl _), fun k hk => absurd hk (Nat.not_lt_zero _), by omega⟩
  · simp at hcs
    obtain ⟨rfl, rfl, rfl⟩ := hcs
    have each : ∀ i, i < len → ∃ f : Fr, f.k = (q i).2.1 ∧ f.n = (q i).2.2.1 ∧ (q i).2.2.2 = .slice f.a f.ws.length f.c ∧ WAt (fun _ => True) w f := fun i hi => by
      obtain ⟨_, _, _, _, fu, y, hy⟩ := hcell i hi
      obtain ⟨ws, a, cp, e, hw⟩ := words_of hy
      exact ⟨⟨(q i).2.1, (q i).2.2.1, ws, a, cp⟩, rfl, rfl, e, hw _ _⟩
    obtain ⟨F, hF⟩ := choose_lt each
    refine ⟨fun i => (q i).1, F, fun h0 => ?_, fun k hk => (hF k hk).2.2.2, by unfold maxLen at hm; omega⟩
    obtain ⟨b, off, sp⟩ := a
    have hspot : sp = none := by simpa [Addr.add] using World.cell?_spot (hcell 0 h0).1
    subst hspot
    have hb : b < w.heap.size := by
      have := World.block_lt_of_cell? _ _ (hcell 0 h0).1
      rwa [addr_at] at this
    refine ⟨b, off, rfl, hb, fun k hk => ?_⟩
    obtain ⟨e0, e1, e2, e3, _⟩ := hcell k hk
    obtain ⟨g0, g1, g2, _⟩ := hF k hk
    rw [addr_at] at e0 e1 e2 e3
    rw [g0, g1, ← g2]
    exact ⟨e0, e1, e2, e3⟩
end


/-- Few calls, of not too many words. -/
def Few (len : Nat) (F : Nat → Fr) : Prop := len ≤ 100 ∧ ∀ k, k < len → (F k).ws.length ≤ 5000

set_option maxHeartbeats 2000000 in
theorem few_true (a0 : Option Addr) (len cap : Nat) (X : Nat → Int) (F : Nat → Fr) (w0 w : World) (h : Acts w0 a0 len X F) (hb : Below w0.heap.size w0 w) (hf : Few len F) :
    Calls Try.prog 8 #[.slice a0 len cap] w fun e w' => e = .returned (.bool true) ∧ w' = w := by
  have HA := Lib.hid (And.intro h (And.intro hb hf))
  have hl : ¬ (len : Int) > 100 := by have := hf.1; omega
  clear h hb hf
  go_enter Try.func8, Try.ntmps8
  go_wp2_with fail
  go_loopw [3] (fun s wr => ∃ k : Nat, k ≤ len ∧ s = .int .i64 k ∧ wr = w) (fun s _ => len - (RowKit.intOf s).toNat)
  case atStart => exact ⟨0, Nat.zero_le _, rfl, rfl⟩
  case round =>
    obtain ⟨k, hk, rfl, rfl⟩ := hrel
    by_cases hlt : k < len
    · obtain ⟨b, off, rfl, hbl, hc⟩ := HA.out.1.at_ (by omega)
      obtain ⟨-, -, -, c3⟩ := hc k hlt
      replace c3 := (HA.out.2.1.cell (p := ⟨b, off + k * 4 + 3, none⟩) hbl).trans c3
      have hq : ¬ ((F k).ws.length : Int) > 5000 := by have := HA.out.2.2.2 k hlt; omega
      clear hc
      go_wp2_with fail
      go_roundw
      case rel => first | exact ⟨k + 1, by omega, by go_num, rfl⟩ | exact ⟨k + 1, by omega, by go_num, trivial⟩
      case measure => simp [RowKit.intOf]; omega
    · obtain rfl : k = len := by omega
      go_wp2_with fail
      go_ret
      exact ⟨rfl, rfl⟩

set_option maxHeartbeats 2000000 in
theorem few_false (a0 : Option Addr) (len cap : Nat) (X : Nat → Int) (F : Nat → Fr) (w0 w : World) (h : Acts w0 a0 len X F) (hb : Below w0.heap.size w0 w) (hf : ¬ Few len F) :
    Calls Try.prog 8 #[.slice a0 len cap] w fun e w' => e = .returned (.bool false) ∧ w' = w := by
  by_cases hl : (len : Int) > 100
  · clear h hb hf
    go_enter Try.func8, Try.ntmps8
    go_wp2_with fail
    go_ret
    exact ⟨rfl, rfl⟩
  have HA := Lib.hid (And.intro h (And.intro hb hf))
  clear h hb hf
  go_enter Try.func8, Try.ntmps8
  go_wp2_with fail
  go_loopw [3] (fun s wr => ∃ k : Nat, k ≤ len ∧ s = .int .i64 k ∧ wr = w ∧ Hid (∀ i, i < k → (F i).ws.length ≤ 5000)) (fun s _ => len - (RowKit.intOf s).toNat)
  case atStart => exact ⟨0, Nat.zero_le _, rfl, rfl, fun i hi => absurd hi (Nat.not_lt_zero _)⟩
  case round =>
    obtain ⟨k, hk, rfl, rfl, hall⟩ := hrel
    by_cases hlt : k < len
    · obtain ⟨b, off, rfl, hbl, hc⟩ := HA.out.1.at_ (by omega)
      obtain ⟨-, -, -, c3⟩ := hc k hlt
      replace c3 := (HA.out.2.1.cell (p := ⟨b, off + k * 4 + 3, none⟩) hbl).trans c3
      have hmx := (HA.out.1.ws k hlt).1
      unfold maxLen at hmx
      clear hc
      by_cases hq : ((F k).ws.length : Int) > 5000
      · go_wp2_with fail
        go_ret
        exact ⟨rfl, rfl⟩
      · go_wp2_with fail
        go_roundw
        case rel =>
          have hall' : Hid (∀ i, i < k + 1 → (F i).ws.length ≤ 5000) := fun i hi => by
            rcases Nat.lt_succ_iff_lt_or_eq.1 hi with h | rfl
            · exact hall.out i h
            · omega
          first | exact ⟨k + 1, by omega, by go_num, rfl, hall'⟩ | exact ⟨k + 1, by omega, by go_num, hall'⟩ | exact ⟨k + 1, by omega, by go_num, trivial, hall'⟩
        case measure => simp [RowKit.intOf]; omega
    · obtain rfl : k = len := by omega
      exact absurd ⟨by omega, hall.out⟩ HA.out.2.2

set_option maxHeartbeats 4000000 in
/-- Two frames that are told the same are the same. -/
theorem sameframe_any (k n : Int) (ws : List Int) (a1 : Option Addr) (c1 : Nat) (a2 : Option Addr) (c2 : Nat) (K1 K2 : Nat → Prop) (w : World) (h1 : WAt K1 w ⟨k, n, ws, a1, c1⟩) (h2 : WAt K2 w ⟨k, n, ws, a2, c2⟩) :
    Calls Try.prog 26 #[.agg #[.int .i64 k, .int .i64 n, .slice a1 ws.length c1], .agg #[.int .i64 k, .int .i64 n, .slice a2 ws.length c2]] w fun e w' => e = .returned (.bool true) ∧ Below w.heap.size w w' := by
  have hb := ((Below.refl w.heap.size w).alloc (Nat.le_refl _) (.cells #[.int .i64 k, .int .i64 n, .slice a1 ws.length c1] TF)).alloc (by simp) (.cells #[.int .i64 k, .int .i64 n, .slice a2 ws.length c2] TF)
  have hmx := h1.1
  unfold maxLen at hmx
  simp only at hmx
  have HW := Lib.hid (And.intro (h1.move (K' := K1) (fun g hg hk => ⟨hk, hb.block g hg⟩) hb.size) (h2.move (K' := K2) (fun g hg hk => ⟨hk, hb.block g hg⟩) hb.size))
  have HB := Lib.hid hb
  clear h1 h2 hb
  have x0 : ((w.alloc (.cells #[.int .i64 k, .int .i64 n, .slice a1 ws.length c1] TF)).alloc (.cells #[.int .i64 k, .int .i64 n, .slice a2 ws.length c2] TF)).cell? ⟨w.heap.size, 2, none⟩ = some (.slice a1 ws.length c1) := by simp [go_sem]
  have x1 : ((w.alloc (.cells #[.int .i64 k, .int .i64 n, .slice a1 ws.length c1] TF)).alloc (.cells #[.int .i64 k, .int .i64 n, .slice a2 ws.length c2] TF)).cell? ⟨w.heap.size + 1, 2, none⟩ = some (.slice a2 ws.length c2) := by simp [go_sem]
  go_enter Try.func26, Try.ntmps26
  go_wp2_with fail
  generalize (w.alloc (.cells #[.int .i64 k, .int .i64 n, .slice a1 ws.length c1] TF)).alloc (.cells #[.int .i64 k, .int .i64 n, .slice a2 ws.length c2] TF) = W at HW HB x0 x1 ⊢
  generalize w.heap.size + 1 = b2 at x1 ⊢
  generalize hb1 : w.heap.size = b1 at x0 HB ⊢
  go_loopw [5] (fun s wr => ∃ j : Nat, j ≤ ws.length ∧ s = .int .i64 j ∧ Below W.heap.size W wr) (fun s _ => ws.length - (RowKit.intOf s).toNat)
  case atStart => exact ⟨0, Nat.zero_le _, rfl, Below.refl _ _⟩
  case round =>
    obtain ⟨j, hj, rfl, hBr⟩ := hrel
    have y0 := (World.cell?_of_block (w := W) (hBr.block b1 (World.block_lt_of_cell? _ _ x0))).trans x0
    have y1 := (World.cell?_of_block (w := W) (hBr.block b2 (World.block_lt_of_cell? _ _ x1))).trans x1
    by_cases hlt : j < ws.length
    · obtain ⟨g1, o1, e1, hc1, hg1, -, hw1⟩ := HW.out.1.2 (by show 0 < ws.length; omega)
      obtain ⟨g2, o2, e2, hc2, hg2, -, hw2⟩ := HW.out.2.2 (by show 0 < ws.length; omega)
      simp only at e1 e2
      subst e1 e2
      have d1 := (World.cell?_of_block (w := W) (a := ⟨g1, o1 + j, none⟩) (hBr.block g1 hg1)).trans (hw1 j ws[j] (List.getElem?_eq_getElem hlt))
      have d2 := (World.cell?_of_block (w := W) (a := ⟨g2, o2 + j, none⟩) (hBr.block g2 hg2)).trans (hw2 j ws[j] (List.getElem?_eq_getElem hlt))
      generalize ws[j] = y at d1 d2
      have HBr := Lib.hid hBr
      clear hBr hc1 hg1 hw1 hc2 hg2 hw2
      go_wp2_with fail
      go_still (by kernel_rfl)
      change Exit.then _ _ _ _ wr.drew
      go_wp2_with fail
      go_roundw
      case rel => exact ⟨j + 1, by omega, by go_num, HBr.out.drew⟩
      case measure => simp [RowKit.intOf]; omega
    · obtain rfl : j = ws.length := by omega
      go_wp2_with fail
      go_ret
      exact ⟨rfl, by rw [hb1]; exact HB.out.trans (hBr.mono (by rw [← hb1]; exact HB.out.size))⟩

end Go.Proofs.Ytalfhcmccdnajaa
