/- The document's Scan. -/
import Derived.Test.YtalfhcmccdnajaaSlA
namespace Go.Proofs.Ytalfhcmccdnajaa
open Go.RowKit Go.Sort

set_option maxHeartbeats 1000000 in
set_option maxRecDepth 100000 in
theorem rdo_scan_none (q : Nat) (vL vT : Value) (room : Int) (L : List Fr) (X k n : Int) (a : Option Addr) (m c : Nat) (w : World) (h : Rf w q vL vT room L 0) (hl : L.length ≤ 2048) (hx0 : ¬ X = 0) (hx1 : ¬ X = 1) (hx2 : ¬ X = 2) (hx3 : ¬ X = 3) :
    Calls Try.prog 12 #[.pointer (some ⟨q, 0, none⟩), .agg #[.int .i64 X, .int .i64 k, .int .i64 n, .slice a m c]] w fun e w' => e = .returned (.agg #[.int .i64 0, .int .i64 0, .slice none 0 0, .bool false, .bool false, .int .i64 0]) ∧ RDid q room vL vT w L 0 w' := by
  obtain ⟨W, hW, hb, hz, y0, y1⟩ := rdo_boxes w X k n a m c
  have hR := h.later hb
  have hlo := h.fs.lt
  have hto := h.bs.lt
  have hqo := h.lq
  obtain ⟨aL, cL, hvL⟩ := hR.fs.sl
  obtain ⟨aT, cT, hvT⟩ := hR.bs.sl
  rw [todo_length] at hvT
  have g0 := hR.c0
  rw [hvL] at g0
  have x0 := cell_of_row _ _ 0 _ _ _ y0
  rw [hW] at x0 g0
  have HX := Lib.hid (And.intro h (And.intro (And.intro hR (And.intro hb (And.intro hz (And.intro y1 hvT)))) (And.intro hlo (And.intro hto hqo))))
  clear h hR hb hz y0 y1 hlo hto hqo hvL hvT
  go_enter Try.func12, Try.ntmps12
  go_wp2_with fail
  rw [← hW]
  clear hW x0 g0 hx0 hx1 hx2 hx3
  go_loopw [8] (fun s8 wr => ∃ d : Nat, d ≤ L.length ∧ 0 ≤ d ∧ s8 = .int .i64 ((d : Int) - 1) ∧ wr = W) (fun s8 _ => (RowKit.intOf s8 + 1).toNat)
  case atStart => exact ⟨L.length, Nat.le_refl _, by omega, by go_num, rfl⟩
  case round =>
    obtain ⟨d, hd, hld, rfl, rfl⟩ := hrel
    cases d with
    | zero =>
      have hz := HX.out.2.1.2.2.1
      have hlo := HX.out.2.2.1
      have hto := HX.out.2.2.2.1
      have HD : Hid (RDidB q room vL vT w wr.heap.size L 0 wr) := ⟨vL, vT, HX.out.2.1.1, RTurn.of HX.out.2.1.2.1, fun _ hg => Or.inl hg, fun _ hg => Or.inl hg⟩
      have r1 := HX.out.2.1.2.2.2.1
      have t0 := cell_of_row _ _ 0 _ _ _ r1
      have t1 := cell_of_row _ _ 1 _ _ _ r1
      have t2 := cell_of_row _ _ 2 _ _ _ r1
      have t3 := cell_of_row _ _ 3 _ _ _ r1
      have t4 := cell_of_row _ _ 4 _ _ _ r1
      have t5 := cell_of_row _ _ 5 _ _ _ r1
      have ft0 := frozen_of_row _ _ 0 _ _ r1
      have ft1 := frozen_of_row _ _ 1 _ _ r1
      have ft2 := frozen_of_row _ _ 2 _ _ r1
      have ft3 := frozen_of_row _ _ 3 _ _ r1
      have ft4 := frozen_of_row _ _ 4 _ _ r1
      have ft5 := frozen_of_row _ _ 5 _ _ r1
      clear r1 hlo hto
      go_wp2_with fail
      obtain ⟨Z, hZ, z0, z1, z2, z3, z4, z5⟩ := six_cells (b := w.heap.size + 1) (.int .i64 0) (.int .i64 0) (.slice none 0 0) (.bool false) (.bool false) (.int .i64 0) t0 t1 t2 t3 t4 t5
      have HZ : RDid q room vL vT w L 0 Z := by rw [hZ]; exact (HD.out.six HX.out.2.2.2.2 HX.out.2.2.1 HX.out.2.2.2.1 (by omega) (by omega) _ _ _ _ _ _).did (by omega)
      rw [← hZ]
      exact bodyPost_ret (v := .agg #[.int .i64 0, .int .i64 0, .slice none 0 0, .bool false, .bool false, .int .i64 0]) (by simp [results, Try.results12, go_sem, z0, z1, z2, z3, z4, z5]) rfl ⟨rfl, HZ⟩
    | succ i =>
      have ei : (((i + 1 : Nat) : Int) - 1) = (i : Int) := by omega
      rw [ei]
      obtain ⟨g, cT', hv', hc1, hg, hc, hfz⟩ := HX.out.2.1.1.bs.cell (todo_get (left := 0) (show i < L.length by omega))
      rw [todo_length] at hv' hc1
      have c1 := HX.out.2.1.1.c1
      rw [hv'] at c1
      have hlt' : (i : Int) < (L.length : Int) := by omega
      rw [decide_eq_false (show ¬ i < 0 by omega)] at hc
      clear hv' ei
      go_wp2_with fail
      go_roundw
      case rel => exact ⟨i, by omega, by omega, by go_num, by trivial⟩
      case measure => simp [RowKit.intOf]

set_option maxHeartbeats 1000000 in
set_option maxRecDepth 100000 in
theorem rdo_scan_some (q : Nat) (vL vT : Value) (room : Int) (L : List Fr) (f : Fr) (j : Nat) (X k n : Int) (a : Option Addr) (m c : Nat) (w : World) (h : Rf w q vL vT room L (j + 1)) (hl : L.length ≤ 2048) (hx0 : ¬ X = 0) (hx1 : ¬ X = 1) (hx2 : ¬ X = 2) (hx3 : ¬ X = 3) (hj : L[j]? = some f) :
    Calls Try.prog 12 #[.pointer (some ⟨q, 0, none⟩), .agg #[.int .i64 X, .int .i64 k, .int .i64 n, .slice a m c]] w fun e w' => e = .returned (.agg #[.int .i64 f.k, .int .i64 f.n, .slice f.a f.ws.length f.c, .bool false, .bool true, .int .i64 0]) ∧ RDid q room vL vT w L j w' := by
  obtain ⟨W, hW, hb, hz, y0, y1⟩ := rdo_boxes w X k n a m c
  have hR := h.later hb
  have hlo := h.fs.lt
  have hto := h.bs.lt
  have hqo := h.lq
  obtain ⟨aL, cL, hvL⟩ := hR.fs.sl
  obtain ⟨aT, cT, hvT⟩ := hR.bs.sl
  rw [todo_length] at hvT
  have g0 := hR.c0
  rw [hvL] at g0
  have x0 := cell_of_row _ _ 0 _ _ _ y0
  rw [hW] at x0 g0
  have HX := Lib.hid (And.intro h (And.intro (And.intro hR (And.intro hb (And.intro hz (And.intro y1 hvT)))) (And.intro hlo (And.intro hto hqo))))
  have hjl := (List.getElem?_eq_some_iff.1 hj).1
  have HJ := Lib.hid hj
  clear hj
  clear h hR hb hz y0 y1 hlo hto hqo hvL hvT
  go_enter Try.func12, Try.ntmps12
  go_wp2_with fail
  rw [← hW]
  clear hW x0 g0 hx0 hx1 hx2 hx3
  go_loopw [8] (fun s8 wr => ∃ d : Nat, d ≤ L.length ∧ (j + 1) ≤ d ∧ s8 = .int .i64 ((d : Int) - 1) ∧ wr = W) (fun s8 _ => (RowKit.intOf s8 + 1).toNat)
  case atStart => exact ⟨L.length, Nat.le_refl _, by omega, by go_num, rfl⟩
  case round =>
    obtain ⟨d, hd, hld, rfl, rfl⟩ := hrel
    cases d with
    | zero =>
      omega
    | succ i =>
      have ei : (((i + 1 : Nat) : Int) - 1) = (i : Int) := by omega
      rw [ei]
      obtain ⟨g, cT', hv', hc1, hg, hc, hfz⟩ := HX.out.2.1.1.bs.cell (todo_get (left := (j + 1)) (show i < L.length by omega))
      rw [todo_length] at hv' hc1
      have c1 := HX.out.2.1.1.c1
      rw [hv'] at c1
      have hlt' : (i : Int) < (L.length : Int) := by omega
      by_cases hij : i = j
      · subst hij
        rw [decide_eq_true (show i < i + 1 by omega)] at hc
        have hfl := (hv' ▸ HX.out.2.1.1).flag (i := i) false (left' := i) (todo_set (by simp) (fun x _ hx => by omega))
        have HF := Lib.hid (And.intro hfl hv')
        obtain ⟨gL, cL', hvl, hd1, hd2, hgl, k0, k1, k2⟩ := hfl.1.fs.cell HJ.out
        have c0 := hfl.1.c0
        rw [hvl] at c0
        have hz := HX.out.2.1.2.2.1
        have hlo := HX.out.2.2.1
        have hto := HX.out.2.2.2.1
        have hqo := HX.out.2.2.2.2
        have r1 := (hfl.2.block (w.heap.size + 1) (by omega) (by omega) (fun e => by have := hlo _ e.symm; omega) (fun e => by have := hto g (by rw [hv']; rfl); simp only [Value.ownBlock, Option.some.injEq] at e; omega)).trans HX.out.2.1.2.2.2.1
        have t0 := cell_of_row _ _ 0 _ _ _ r1
        have t1 := cell_of_row _ _ 1 _ _ _ r1
        have t2 := cell_of_row _ _ 2 _ _ _ r1
        have t3 := cell_of_row _ _ 3 _ _ _ r1
        have t4 := cell_of_row _ _ 4 _ _ _ r1
        have t5 := cell_of_row _ _ 5 _ _ _ r1
        have ft0 := frozen_of_row _ _ 0 _ _ r1
        have ft1 := frozen_of_row _ _ 1 _ _ r1
        have ft2 := frozen_of_row _ _ 2 _ _ r1
        have ft3 := frozen_of_row _ _ 3 _ _ r1
        have ft4 := frozen_of_row _ _ 4 _ _ r1
        have ft5 := frozen_of_row _ _ 5 _ _ r1
        clear hfl hvl hv' hz hlo hto hqo r1 ei hd2 hgl
        go_wp2_with fail
        obtain ⟨Z, hZ, z0, z1, z2, z3, z4, z5⟩ := six_cells (b := w.heap.size + 1) (.int .i64 f.k) (.int .i64 f.n) (.slice f.a f.ws.length f.c) (.bool false) (.bool true) (.int .i64 0) t0 t1 t2 t3 t4 t5
        have HD : Hid (RDidB q room vL vT w wr.heap.size L i (wr.setCell ⟨g, i, none⟩ (.bool false))) := by
          obtain ⟨⟨h1, h2⟩, hv⟩ := HF.out
          rw [← hv] at h1 h2
          exact ⟨vL, vT, h1, h2.after HX.out.2.1.2.1, fun _ hg => Or.inl hg, fun _ hg => Or.inl hg⟩
        have hz := HX.out.2.1.2.2.1
        have HZ : RDid q room vL vT w L i Z := by rw [hZ]; exact (HD.out.six HX.out.2.2.2.2 HX.out.2.2.1 HX.out.2.2.2.1 (by omega) (by omega) _ _ _ _ _ _).did (by omega)
        rw [← hZ]
        exact bodyPost_ret (v := .agg #[.int .i64 f.k, .int .i64 f.n, .slice f.a f.ws.length f.c, .bool false, .bool true, .int .i64 0]) (by simp [results, Try.results12, go_sem, z0, z1, z2, z3, z4, z5]) rfl ⟨rfl, HZ⟩
      · rw [decide_eq_false (show ¬ i < (j + 1) by omega)] at hc
        clear hv' ei
        go_wp2_with fail
        go_roundw
        case rel => exact ⟨i, by omega, by omega, by go_num, by trivial⟩
        case measure => simp [RowKit.intOf]

end Go.Proofs.Ytalfhcmccdnajaa
