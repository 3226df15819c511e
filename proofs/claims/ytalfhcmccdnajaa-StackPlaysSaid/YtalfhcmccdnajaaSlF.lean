/- The document's Push, taken. -/
import Derived.Test.YtalfhcmccdnajaaSlE
namespace Go.Proofs.Ytalfhcmccdnajaa
open Go.RowKit Go.Sort

theorem frame_cells {W : World} {b : Nat} {k n : Int} {a : Option Addr} {c : Nat} {ws : List Int} (h : W.heap[b]? = some (.cells #[.int .i64 k, .int .i64 n, .slice a ws.length c] TF (0, 0))) : ∀ j u, (⟨k, n, ws, a, c⟩ : Fr).cells[j]? = some u → W.cell? ((⟨b, 0, none⟩ : Addr).add j) = some u := fun j u hu => by
  rw [addr_at, cell_of_row _ _ _ _ _ _ h]
  simpa [Fr.cells] using hu
theorem belowV {w W W' : World} {v : Value} (h : Below w.heap.size w W) (g : W.grownBy W' v.ownBlock) (ho : ∀ x, v.ownBlock = some x → w.heap.size ≤ x) : Below w.heap.size w W' :=
  h.trans (by
    obtain ⟨e1, e2, e3, e4, e5⟩ := g
    exact ⟨e1, e2, e3, e4, fun k hk => e5 k (Nat.lt_of_lt_of_le hk h.size) (fun e => by have := ho k e.symm; omega)⟩)


/-- The list, one frame more, lies anew, and the document's cell names it. -/
def Pin (W9 : World) (q : Nat) (M : List Fr) (W : World) : Prop :=
  ∃ a2 c2 w2, W = w2.setCell ⟨q, 0, none⟩ (.slice a2 M.length c2) ∧ Below W9.heap.size W9 w2 ∧ FsAt w2 (.slice a2 M.length c2) M ∧ ∀ g, (.slice a2 M.length c2 : Value).ownBlock = some g → W9.heap.size ≤ g

set_option maxHeartbeats 4000000 in
set_option maxRecDepth 100000 in
theorem rdo_push_in (q left : Nat) (vL vT : Value) (room k n : Int) (a : Option Addr) (c : Nat) (ws : List Int) (L : List Fr) (w : World) (h : Rf w q vL vT room L left) (hu : used L ≤ 4096) (hm : ws.length ≤ 100000) (hle : left ≤ L.length) (hr : used L + (ws.length : Int) + 2 ≤ room) :
    Calls Try.prog 12 #[.pointer (some ⟨q, 0, none⟩), .agg #[.int .i64 0, .int .i64 k, .int .i64 n, .slice a ws.length c]] w fun e w' => e = .returned (.agg #[.int .i64 0, .int .i64 0, .slice none 0 0, .bool false, .bool false, .int .i64 0]) ∧ RDid q room vL vT w (L ++ [⟨k, n, ws, a, c⟩]) left w' := by
  obtain ⟨_, rfl, hb, hz, y0, y1⟩ := rdo_boxes w 0 k n a ws.length c
  obtain ⟨ao, cap, hv⟩ := h.fs.sl
  have g0 := (h.later hb).c0
  rw [hv] at g0
  have x0 := cell_of_row _ _ 0 _ _ _ y0
  have x1 := cell_of_row _ _ 1 _ _ _ y0
  have x2 := cell_of_row _ _ 2 _ _ _ y0
  have x3 := cell_of_row _ _ 3 _ _ _ y0
  have g2 := (h.later hb).c2
  have HX := Lib.hid (And.intro h (And.intro hb hz))
  have HU := Lib.hid (And.intro hu (And.intro hm (And.intro hr hle)))
  have HR := Lib.hid (And.intro (h.later hb) hv)
  have HY := Lib.hid (And.intro y1 y0)
  have h0 := used_len L
  clear h hb hz y0 y1 hv hu hm hr hle
  go_enter Try.func12, Try.ntmps12
  go_wp2_with fail
  generalize hW : (w.alloc (.cells #[.int .i64 0, .int .i64 k, .int .i64 n, .slice a ws.length c] TA)).alloc (.cells #[.int .i64 0, .int .i64 0, .slice none 0 0, .bool false, .bool false, .int .i64 0] TT) = W at HX HR HY g0 g2 x0 x1 x2 x3 ⊢
  generalize hU : used L = U at h0
  have hu := HU.out
  rw [hU] at hu
  obtain ⟨u1, u2, u3, -⟩ := hu
  have e0 : IntKind.i64.wrap (U + (ws.length : Int)) = U + (ws.length : Int) := by rw [IntKind.wrap_i64]; omega
  have e1 : IntKind.i64.wrap (U + (ws.length : Int) + 2) = U + (ws.length : Int) + 2 := by rw [IntKind.wrap_i64]; omega
  have e2 : ¬ (U + (ws.length : Int) + 2 > room) := by omega
  have e3 : ¬ (room < U + (ws.length : Int) + 2) := by omega
  generalize hb0 : w.heap.size = b at x0 x1 x2 x3 HY HX ⊢
  have HB0 := Lib.hid hb0
  have hUU := Lib.hid (show used L ≤ 4096 ∧ used L = U from ⟨HU.out.1, hU⟩)
  clear hW hb0 hU h0 u1 u2 u3
  have k0 := cell_regrown x0
  have k1 := cell_regrown x1
  have k2 := cell_regrown x2
  have k3 := cell_regrown x3
  have k4 := cell_regrown g2
  have k5 := cell_regrown g0
  refine wp_region_quiet_below (by kernel_rfl) (by kernel_rfl) ?_
  repeat (first | go_big_quiet_skip | (quiet_step (exact hUU.out.2 ▸ rused_regrown _ _ _ _ _ _ _ _ _ HR.out.1 hUU.out.1)))
  refine wpQuiet_nil ?_
  intro _ hw'
  obtain ⟨⟨dq, osq⟩, hw''⟩ := hw'
  subst hw''
  have hbq := below_regrown W dq osq
  have r1 := (hbq.block (b + 1) (by have := HX.out.2.2; omega)).trans HY.out.1
  have r0 := (hbq.block b (by have := HX.out.2.2; omega)).trans HY.out.2
  have HE := Lib.hid (HX.out.2.1.trans (hbq.mono (by have := HX.out.2.2; omega)))
  have HRq := Lib.hid (HR.out.1.later hbq)
  have hvq := HR.out.2
  have HSZ := Lib.hid (show w.heap.size + 2 ≤ (grow (redrawn W dq) osq).heap.size from by have := HX.out.2.2; have := hbq.size; have := HB0.out; omega)
  clear k0 k1 k2 k3 k4 k5 x0 x1 x2 x3 g0 g2 hbq HY hUU
  show Exit.then _ _ _ _ (grow (redrawn W dq) osq)
  generalize grow (redrawn W dq) osq = W9 at HE HRq HSZ r0 r1 ⊢
  have HP := Lib.hid (And.intro r0 (And.intro r1 hvq))
  have x1 := cell_of_row _ _ 1 _ _ _ r0
  have x2 := cell_of_row _ _ 2 _ _ _ r0
  have x3 := cell_of_row _ _ 3 _ _ _ r0
  have g0 := HRq.out.c0
  have zq0 := HRq.out.z0
  rw [hvq] at g0
  clear r0 r1 hvq
  go_wp2_with fail
  have HS : Hid (∀ V, Below W9.heap.size W9 V → V.cell? ⟨q, 0, none⟩ = some (.slice ao L.length cap) ∧ V.cell? ⟨b, 1, none⟩ = some (.int .i64 k) ∧ V.cell? ⟨b, 2, none⟩ = some (.int .i64 n) ∧ V.cell? ⟨b, 3, none⟩ = some (.slice a ws.length c) ∧ V.frozen? ⟨q, 0, none⟩ = false) := fun V hV =>
    ⟨(hV.cell (p := ⟨q, 0, none⟩) (World.block_lt_of_cell? _ _ g0)).trans g0, (hV.cell (p := ⟨b, 1, none⟩) (World.block_lt_of_cell? _ _ x1)).trans x1, (hV.cell (p := ⟨b, 2, none⟩) (World.block_lt_of_cell? _ _ x2)).trans x2, (hV.cell (p := ⟨b, 3, none⟩) (World.block_lt_of_cell? _ _ x3)).trans x3, (HRq.out.later hV).z0⟩
  have HF : Hid (∀ V, Below W9.heap.size W9 V → FsAt V (.slice ao L.length cap) L) := fun V hV => by
    have h1 := (HRq.out.later hV).fs
    rw [HP.out.2.2] at h1
    exact h1
  have HN : Hid (L.length ≤ 100000) := by
    have h1 := used_len L
    have h2 := HU.out.1
    show L.length ≤ 100000
    omega
  go_cut [] (fun wx => Pin W9 q (L ++ [⟨k, n, ws, a, c⟩]) wx)
  case first =>
    obtain ⟨m0, m1, m2, m3, m4⟩ := HS.out (W9.alloc (.cells #[] TF)).drew (belowA (Below.refl _ _) _).drew
    obtain ⟨i0, i1, i2, i3, i4⟩ := HS.out ((W9.alloc (.cells #[] TF)).alloc (.cells #[.int .i64 k, .int .i64 n, .slice a ws.length c] TF)).drew (belowA (belowA (Below.refl _ _) _) _).drew
    obtain ⟨j0, j1, j2, j3, j4⟩ := HS.out (W9.alloc (.cells #[.int .i64 k, .int .i64 n, .slice a ws.length c] TF)).drew (belowA (Below.refl _ _) _).drew
    obtain ⟨n0, n1, n2, n3, n4⟩ := HS.out ((W9.alloc (.cells #[.int .i64 k, .int .i64 n, .slice a ws.length c] TF)).alloc (.cells #[] TF)).drew (belowA (belowA (Below.refl _ _) _) _).drew
    go_region_law
      (first
        | (refine step_push rfl _ _ rfl _ v1 L rfl (by first | exact hf1 | exact hf1.move fun x hx => Below.heap_alloc _ _ _ (hf1.lt x hx)) HN.out _ 1 rfl ⟨k, n, ws, a, c⟩ (by first | exact frame_cells hrow | exact frame_cells (heap_alloc_new _ _)) ?_; intro v2 w2 hf2 hg2 ho2; obtain ⟨a2, c2, rfl⟩ := hf2.sl; have hb2 : Below W9.heap.size W9 w2 := belowV (by first | exact hb1 | exact belowA hb1 _) hg2 (fun x hx => by have hs1 := hb1.size; rcases ho1 with e | e <;> (rw [e] at hx; simp only [Option.some.injEq] at hx; subst hx; first | omega | (simp; omega) | simp)); obtain ⟨p0, p1, p2, p3, p4⟩ := HS.out _ hb2)
        | (refine step_all rfl _ _ rfl ((W9.alloc (.cells #[] TF)).drew) W9.heap.size rfl (heap_alloc_new _ _) _ L rfl (HF.out _ (belowA (Below.refl _ _) _).drew) HN.out ?_; intro v1 w1 hf1 hg1 ho1; have hb1 : Below W9.heap.size W9 w1 := belowG (belowA (Below.refl _ _) _).drew hg1 (by omega); obtain ⟨y0, y1, y2, y3, y4⟩ := HS.out _ hb1)
        | (refine step_all rfl _ _ rfl (((W9.alloc (.cells #[] TF)).alloc (.cells #[.int .i64 k, .int .i64 n, .slice a ws.length c] TF)).drew) W9.heap.size rfl ((Below.heap_alloc (W9.alloc (.cells #[] TF)) (.cells #[.int .i64 k, .int .i64 n, .slice a ws.length c] TF) W9.heap.size (by rw [World.size_alloc]; exact Nat.lt_succ_self _)).trans (heap_alloc_new W9 (.cells #[] TF))) _ L rfl (HF.out _ (belowA (belowA (Below.refl _ _) _) _).drew) HN.out ?_; intro v1 w1 hf1 hg1 ho1; have hb1 : Below W9.heap.size W9 w1 := belowG (belowA (belowA (Below.refl _ _) _) _).drew hg1 (by omega); obtain ⟨y0, y1, y2, y3, y4⟩ := HS.out _ hb1; have hrow := (hg1.block (W9.heap.size + 1) (by show W9.heap.size + 1 < ((W9.alloc (.cells #[] TF)).alloc (.cells #[.int .i64 k, .int .i64 n, .slice a ws.length c] TF)).heap.size; rw [World.size_alloc, World.size_alloc]; omega) (by simp)).trans (show ((W9.alloc (.cells #[] TF)).alloc (.cells #[.int .i64 k, .int .i64 n, .slice a ws.length c] TF)).heap[W9.heap.size + 1]? = some (.cells #[.int .i64 k, .int .i64 n, .slice a ws.length c] TF (0, 0)) from by rw [← World.size_alloc W9 (.cells #[] TF)]; exact heap_alloc_new (W9.alloc (.cells #[] TF)) (.cells #[.int .i64 k, .int .i64 n, .slice a ws.length c] TF)))
        | (refine step_all rfl _ _ rfl (((W9.alloc (.cells #[.int .i64 k, .int .i64 n, .slice a ws.length c] TF)).alloc (.cells #[] TF)).drew) (W9.heap.size + 1) rfl (show ((W9.alloc (.cells #[.int .i64 k, .int .i64 n, .slice a ws.length c] TF)).alloc (.cells #[] TF)).heap[W9.heap.size + 1]? = some (.cells #[] TF (0, 0)) from by rw [← World.size_alloc W9 (.cells #[.int .i64 k, .int .i64 n, .slice a ws.length c] TF)]; exact heap_alloc_new (W9.alloc (.cells #[.int .i64 k, .int .i64 n, .slice a ws.length c] TF)) (.cells #[] TF)) _ L rfl (HF.out _ (belowA (belowA (Below.refl _ _) _) _).drew) HN.out ?_; intro v1 w1 hf1 hg1 ho1; have hb1 : Below W9.heap.size W9 w1 := belowG (belowA (belowA (Below.refl _ _) _) _).drew hg1 (by omega); obtain ⟨y0, y1, y2, y3, y4⟩ := HS.out _ hb1; have hrow := (hg1.block W9.heap.size (by show W9.heap.size < ((W9.alloc (.cells #[.int .i64 k, .int .i64 n, .slice a ws.length c] TF)).alloc (.cells #[] TF)).heap.size; rw [World.size_alloc, World.size_alloc]; omega) (by simp)).trans ((Below.heap_alloc (W9.alloc (.cells #[.int .i64 k, .int .i64 n, .slice a ws.length c] TF)) (.cells #[] TF) W9.heap.size (by rw [World.size_alloc]; exact Nat.lt_succ_self _)).trans (heap_alloc_new W9 (.cells #[.int .i64 k, .int .i64 n, .slice a ws.length c] TF)))))
    all_goals
      go_wp2_with fail
      go_meet
      case rel =>
        exact ⟨a2, c2, w2, by simp, hb2, hf2, fun g hg => by
          have hs1 := hb1.size
          rcases ho2 with e | e <;> rw [e] at hg
          · rcases ho1 with e' | e' <;> rw [e'] at hg <;> simp only [Option.some.injEq] at hg <;> subst hg <;> simp <;> omega
          · simp only [Option.some.injEq] at hg
            subst hg
            first | omega | (simp; omega)⟩
  case rest =>
    obtain ⟨a2, c2, w2, rfl, hb2, hf2, hn2⟩ := hcut
    obtain ⟨aT, cT, hvT⟩ := HRq.out.bs.sl
    rw [todo_length] at hvT
    have hqW := HRq.out.lq
    have far : ∀ x, x ≠ q → (w2.setCell ⟨q, 0, none⟩ (.slice a2 (L ++ [(⟨k, n, ws, a, c⟩ : Fr)]).length c2)).heap[x]? = w2.heap[x]? := fun x hx => Below.heap_setCell _ _ _ _ hx
    have hR2 := HRq.out.later hb2
    obtain ⟨Z, hZ⟩ : ∃ Z, Z = w2.setCell ⟨q, 0, none⟩ (.slice a2 (L ++ [(⟨k, n, ws, a, c⟩ : Fr)]).length c2) := ⟨_, rfl⟩
    have d0 : Z.cell? ⟨q, 0, none⟩ = some (.slice a2 (L ++ [(⟨k, n, ws, a, c⟩ : Fr)]).length c2) := by rw [hZ]; exact World.cell?_setCell_same _ _ _ hR2.c0
    have d1 : Z.cell? ⟨q, 1, none⟩ = some vT := by rw [hZ, World.cell?_setCell_other _ _ _ _ (by simp)]; exact hR2.c1
    have d2 : Z.cell? ⟨q, 2, none⟩ = some (.int .i64 room) := by rw [hZ, World.cell?_setCell_other _ _ _ _ (by simp)]; exact hR2.c2
    have e0 : Z.frozen? ⟨q, 0, none⟩ = false := by rw [hZ, World.frozen?_setCell]; exact hR2.z0
    have e1 : Z.frozen? ⟨q, 1, none⟩ = false := by rw [hZ, World.frozen?_setCell]; exact hR2.z1
    have hBZ : BsAt Z vT (todo L.length left) := hR2.bs.move (fun g hg => by rw [hZ]; exact far g (fun e => hR2.nt (by rw [hg, e])))
    have hFZ : FsAt Z (.slice a2 (L ++ [(⟨k, n, ws, a, c⟩ : Fr)]).length c2) (L ++ [(⟨k, n, ws, a, c⟩ : Fr)]) := hf2.move (fun g hg => by rw [hZ]; exact far g (fun e => by have := hn2 g hg; omega))
    have hzs : Z.heap.size = w2.heap.size := by rw [hZ]; simp [World.setCell]
    have rb1 : Z.heap[b + 1]? = _ := (show Z.heap[b + 1]? = w2.heap[b + 1]? from by rw [hZ]; exact far (b + 1) (by have := HX.out.1.lq; have := HB0.out; omega)).trans ((hb2.block (b + 1) (by have := HSZ.out; have := HB0.out; omega)).trans HP.out.2.1)
    rw [hvT] at d1
    rw [← hZ]
    have d1a : (Z.alloc (.cells #[] TB)).cell? ⟨q, 1, none⟩ = some (.slice aT L.length cT) := ((belowA (Below.refl _ _) (.cells #[] TB)).cell (p := ⟨q, 1, none⟩) (World.block_lt_of_cell? _ _ d1)).trans d1
    have HZ := Lib.hid (And.intro d0 (And.intro d1 (And.intro d2 (And.intro e0 (And.intro e1 (And.intro hBZ (And.intro hFZ (And.intro rb1 (And.intro hzs hvT)))))))))
    have HW2 := Lib.hid (And.intro hZ (And.intro hb2 hn2))
    have HTN := Lib.hid (todo_length L.length left)
    clear hZ hb2 hn2 hf2 hR2 far hqW d0 d2 e0 hBZ hFZ rb1 hzs g0 zq0 x1 x2 x3 hvT
    go_upto_region 8 with (first
      | (at_builtin; refine list_pushb rfl _ _ rfl (w3.alloc (.cells #[.bool false] TB)) v3 (todo L.length left) rfl (hb3.move fun x hx => Below.heap_alloc _ _ _ (hb3.lt x hx)) (by rw [HTN.out]; exact HN.out) w3.heap.size 1 rfl false (by rw [addr_at]; exact cell_of_row _ _ 0 _ _ _ (heap_alloc_new _ _)) ?_; intro v4 w4 hb4 hg4 ho4; obtain ⟨a4, c4, hv4⟩ := hb4.sl; rw [List.length_append, List.length_singleton, HTN.out] at hv4; subst hv4; have hB4 : Below Z.heap.size Z w4 := belowV (belowA hB3 _) hg4 (fun x hx => by have := hB3.size; rcases ho3 with e | e <;> (rw [e] at hx; simp only [Option.some.injEq] at hx; subst hx; first | omega | (simp; omega) | simp)); have s1 := (hB4.cell (p := ⟨q, 1, none⟩) (World.block_lt_of_cell? _ _ d1)).trans d1; have f1 := (World.frozen?_of_block (a := ⟨q, 1, none⟩) (hB4.block q (World.block_lt_of_cell? _ _ d1))).trans e1)
      | (at_builtin; refine list_allb rfl _ _ rfl (Z.alloc (.cells #[] TB)) Z.heap.size rfl (heap_alloc_new _ _) _ (todo L.length left) (HZ.out.2.2.2.2.2.2.2.2.2 ▸ rfl) (HZ.out.2.2.2.2.2.1.move fun x hx => Below.heap_alloc _ _ _ (HZ.out.2.2.2.2.2.1.lt x hx)) (by rw [HTN.out]; exact HN.out) ?_; intro v3 w3 hb3 hg3 ho3; have hB3 : Below Z.heap.size Z w3 := belowG (belowA (Below.refl _ _) _) hg3 (Nat.le_refl _)))
    have hne : b + 1 ≠ q := by have := HX.out.1.lq; have := HB0.out; omega
    have rY : (w4.setCell ⟨q, 1, none⟩ (.slice a4 (L.length + 1) c4)).heap[b + 1]? = some (.cells #[.int .i64 0, .int .i64 0, .slice none 0 0, .bool false, .bool false, .int .i64 0] TT (0, 0)) := (Below.heap_setCell _ _ _ _ hne).trans ((hB4.block (b + 1) (by have := HSZ.out; have := HB0.out; have := HZ.out.2.2.2.2.2.2.2.2.1; have := HW2.out.2.1.size; omega)).trans HZ.out.2.2.2.2.2.2.2.1)
    have t0 := cell_of_row _ _ 0 _ _ _ rY
    have t1 := cell_of_row _ _ 1 _ _ _ rY
    have t2 := cell_of_row _ _ 2 _ _ _ rY
    have t3 := cell_of_row _ _ 3 _ _ _ rY
    have t4 := cell_of_row _ _ 4 _ _ _ rY
    have t5 := cell_of_row _ _ 5 _ _ _ rY
    have ft0 := frozen_of_row _ _ 0 _ _ rY
    have ft1 := frozen_of_row _ _ 1 _ _ rY
    have ft2 := frozen_of_row _ _ 2 _ _ rY
    have ft3 := frozen_of_row _ _ 3 _ _ rY
    have ft4 := frozen_of_row _ _ 4 _ _ rY
    have ft5 := frozen_of_row _ _ 5 _ _ rY
    have HG := Lib.hid (And.intro hb4 (And.intro hB4 (And.intro hg3 (And.intro ho3 (And.intro hg4 ho4)))))
    clear hb4 hB4 hg3 ho3 hg4 ho4 hb3 hB3 rY hne d1 d1a e1 s1 f1
    go_wp2_with fail
    obtain ⟨Y, hY⟩ : ∃ Y, Y = w4.setCell ⟨q, 1, none⟩ (.slice a4 (L.length + 1) c4) := ⟨_, rfl⟩
    rw [← hY] at t0 t1 t2 t3 t4 t5 ⊢
    have HD : Hid (RDidB q room vL vT w (w.heap.size + 2) (L ++ [(⟨k, n, ws, a, c⟩ : Fr)]) left Y) := by
      obtain ⟨hb4, hB4, hg3, ho3, hg4, ho4⟩ := HG.out
      obtain ⟨d0, d1, d2, e0, e1, hBZ, hFZ, -, hzs, -⟩ := HZ.out
      obtain ⟨hZ, hb2, hn2⟩ := HW2.out
      have hqw := HX.out.1.lq
      have hbs := HB0.out
      have hsz := HSZ.out
      have hs2 := hb2.size
      have hs4 := hB4.size
      have far : ∀ x, x ≠ q → Y.heap[x]? = w4.heap[x]? := fun x hx => by rw [hY]; exact Below.heap_setCell _ _ _ _ hx
      have hqz : q < Z.heap.size := World.block_lt_of_cell? _ _ d0
      have hq4 := hB4.block q hqz
      have h3lo : ∀ x, v3.ownBlock = some x → Z.heap.size ≤ x := fun x hx => by
        rcases ho3 with e | e <;> (rw [e] at hx; simp only [Option.some.injEq] at hx; subst hx; first | omega | (simp; omega) | simp)
      have hz3 : Z.heap.size ≤ w3.heap.size := by have := hg3.size; simp only [World.size_alloc] at this; omega
      have h4lo : ∀ x, (.slice a4 (L.length + 1) c4 : Value).ownBlock = some x → Z.heap.size ≤ x := fun x hx => by
        rcases ho4 with e | e
        · exact h3lo x (e ▸ hx)
        · rw [e] at hx; simp only [Option.some.injEq] at hx; subst hx; simp only [World.size_alloc]; omega
      have q0 := (World.cell?_of_block (w := Z) (a := ⟨q, 0, none⟩) hq4).trans d0
      have q1 := (World.cell?_of_block (w := Z) (a := ⟨q, 1, none⟩) hq4).trans d1
      have q2 := (World.cell?_of_block (w := Z) (a := ⟨q, 2, none⟩) hq4).trans d2
      have z0 := (World.frozen?_of_block (w := Z) (a := ⟨q, 0, none⟩) hq4).trans e0
      have z1 := (World.frozen?_of_block (w := Z) (a := ⟨q, 1, none⟩) hq4).trans e1
      refine ⟨_, _, Rf.more (vL := .slice a2 (L ++ [(⟨k, n, ws, a, c⟩ : Fr)]).length c2) (vT := .slice a4 (L.length + 1) c4) ?_ ?_ ?_ ?_ ?_ HU.out.2.2.2 (hFZ.move fun g hg => ?_) (hb4.move fun g hg => far g (by have := h4lo g hg; omega)) (fun e => by have := hn2 q e; omega) (fun e => by have := h4lo q e; omega) (fun hne e => ?_), ⟨?_, ?_, ?_, ?_, fun x hx h1 _ _ => ?_⟩, fun g hg => Or.inr (by have := hn2 g hg; omega), fun g hg => Or.inr (by have := h4lo g hg; omega)⟩
      · rw [hY, World.cell?_setCell_other _ _ _ _ (by simp)]; exact q0
      · rw [hY]; exact World.cell?_setCell_same _ _ _ q1
      · rw [hY, World.cell?_setCell_other _ _ _ _ (by simp)]; exact q2
      · rw [hY, World.frozen?_setCell]; exact z0
      · rw [hY, World.frozen?_setCell]; exact z1
      · exact (far g (by have := hn2 g hg; omega)).trans (hB4.block g (hFZ.lt g hg))
      · obtain ⟨g, hg⟩ := Option.ne_none_iff_exists'.1 hne
        have h1 := hFZ.lt g hg
        have h2 := h4lo g (e ▸ hg)
        omega
      · rw [hY]; show w4.os = _; rw [hB4.os, hZ]; show w2.os = _; rw [hb2.os, HE.out.os]
      · rw [hY]; show w4.tape = _; rw [hB4.tape, hZ]; show w2.tape = _; rw [hb2.tape, HE.out.tape]
      · rw [hY]; show w4.output = _; rw [hB4.output, hZ]; show w2.output = _; rw [hb2.output, HE.out.output]
      · rw [hY, show (w4.setCell ⟨q, 1, none⟩ (.slice a4 (L.length + 1) c4)).heap.size = w4.heap.size from by simp [World.setCell]]; omega
      · rw [far x h1, hB4.block x (by omega), hZ, Below.heap_setCell _ _ _ _ h1, hb2.block x (by omega), HE.out.block x (by omega)]
    obtain ⟨Z6, hZ6, z0, z1, z2, z3, z4, z5⟩ := six_cells (b := b + 1) (.int .i64 0) (.int .i64 0) (.slice none 0 0) (.bool false) (.bool false) (.int .i64 0) t0 t1 t2 t3 t4 t5
    have HZ6 : RDid q room vL vT w (L ++ [(⟨k, n, ws, a, c⟩ : Fr)]) left Z6 := by
      rw [hZ6]
      have hbs := HB0.out
      exact (HD.out.six HX.out.1.lq HX.out.1.fs.lt HX.out.1.bs.lt (by omega) (by omega) _ _ _ _ _ _).did (by omega)
    rw [← hZ6]
    exact bodyPost_ret (v := .agg #[.int .i64 0, .int .i64 0, .slice none 0 0, .bool false, .bool false, .int .i64 0]) (by simp [results, Try.results12, go_sem, z0, z1, z2, z3, z4, z5]) rfl ⟨rfl, HZ6⟩

end Go.Proofs.Ytalfhcmccdnajaa
