/- NumRings: the walk where there is a quotient. -/
import Derived.Test.YtkipioojdlkbcaaDoorRingsB
import Derived.Deep.RegionHeld3
import Derived.Deep.DeepCutAuto
namespace Go.Proofs.YtkipioojdlkbcaaDoor.numRings
open Go.RowKit

theorem keepc2 {W w w' : World} {a0 a1 : Addr} {v0 v1 : Value} (h : Below W.heap.size W w ∧ w.cell? a0 = some v0 ∧ w.cell? a1 = some v1) (hb : Below w.heap.size w w') :
    Below W.heap.size W w' ∧ w'.cell? a0 = some v0 ∧ w'.cell? a1 = some v1 :=
  ⟨stepB h.1 hb, cell_later hb h.2.1, cell_later hb h.2.2⟩

theorem keepc1 {W w : World} {a0 a1 : Addr} {v0 v1 : Value} (h : Below W.heap.size W w ∧ w.cell? a0 = some v0 ∧ w.cell? a1 = some v1) : Below W.heap.size W w := h.1

set_option maxRecDepth 100000 in
set_option maxHeartbeats 8000000 in
theorem walk_ok (a b c : Int) (W : World) (ha : InR a) (hb : InR b) (hc : InR c) (q r : Int) (hb0 : (b == 0) = false) (hov : (a == -9223372036854775808) = false ∨ (b == -1) = false) (cdiv : (∀ w, Calls Tryd.prog 12 #[.int .i64 3, .agg #[.bool false, .int .u64 (U a)], .agg #[.bool false, .int .u64 (U b)]] w fun e w' => e = .returned (.tuple #[.agg #[.bool false, .int .u64 (U (wrap64 q))], .int .i64 0]) ∧ Below w.heap.size w w')) (crem : (∀ w, Calls Tryd.prog 12 #[.int .i64 4, .agg #[.bool false, .int .u64 (U a)], .agg #[.bool false, .int .u64 (U b)]] w fun e w' => e = .returned (.tuple #[.agg #[.bool false, .int .u64 (U r)], .int .i64 0]) ∧ Below w.heap.size w w')) (cy : (∀ w, Calls Tryd.prog 12 #[.int .i64 2, .agg #[.bool false, .int .u64 (U (wrap64 q))], .agg #[.bool false, .int .u64 (U b)]] w fun e w' => e = .returned (.tuple #[.agg #[.bool false, .int .u64 (U (wrap64 (q * b)))], .int .i64 0]) ∧ Below w.heap.size w w')) (cz : (∀ w, Calls Tryd.prog 12 #[.int .i64 0, .agg #[.bool false, .int .u64 (U (wrap64 (q * b)))], .agg #[.bool false, .int .u64 (U r)]] w fun e w' => e = .returned (.tuple #[.agg #[.bool false, .int .u64 (U a)], .int .i64 0]) ∧ Below w.heap.size w w')) (hw : IntKind.i64.wrap (U r) = r) (hs : (decide (b < 0) = true ∧ decide (b < r) = true ∧ decide (r < b) = false) ∨ (decide (b < 0) = false ∧ decide (r < b) = true)) (hr : (r == 0) = true ∨ ((r == 0) = false ∧ decide (r < 0) = true ∧ decide (a < 0) = true) ∨ ((r == 0) = false ∧ decide (r < 0) = false ∧ decide (a < 0) = false)) (hE : Env W) :
    Calls Tryd.prog 5 #[.int .i64 a, .int .i64 b, .int .i64 c] W fun e W' => e = .returned (.bool true) ∧ Below W.heap.size W W' := by
  have hB := Below.refl W.heap.size W
  have hA := Lib.hid (awake_any W hE)
  clear hE
  have Hha := Lib.hid ha
  clear ha
  have Hhb := Lib.hid hb
  clear hb
  have Hhc := Lib.hid hc
  clear hc
  have Hhb0 := Lib.hid hb0
  clear hb0
  have Hhov := Lib.hid hov
  clear hov
  have Hcdiv := Lib.hid cdiv
  clear cdiv
  have Hcrem := Lib.hid crem
  clear crem
  have Hcy := Lib.hid cy
  clear cy
  have Hcz := Lib.hid cz
  clear cz
  have Hhw := Lib.hid hw
  clear hw
  have Hhs := Lib.hid hs
  clear hs
  have Hhr := Lib.hid hr
  clear hr
  go_enter Tryd.func5, Tryd.ntmps5
  go_wp2_with fail
  refine (hA.out).mono ?_
  rintro e x1 ⟨rfl, hb⟩
  replace hB := stepB hB hb
  clear hb
  go_wp2_with fail
  have hI : DoI W x1.heap.size (U (wrap64 (a + b))) (U (wrap64 (a - b))) (U (wrap64 (a * b))) 0 (x1.alloc (Obj.cells (#[.bool false, .int .u64 0, .bool false, .int .u64 0, .bool false, .int .u64 0, .bool false, .int .u64 0, .bool false, .int .u64 0] : Array Value) 39)) := by
    refine ⟨hB.alloc hB.size _, hB.size, by simp, fun j hj => ?_⟩
    have e : j = 0 ∨ j = 1 ∨ j = 2 := by omega
    rcases e with rfl | rfl | rfl <;> exact ⟨by rw [World.cell?_alloc_new]; rfl, by rw [World.cell?_alloc_new]; rfl, by rw [World.frozen?_alloc_new], by rw [World.frozen?_alloc_new]⟩
  clear hB
  generalize hX : x1.heap.size = X at *
  clear hX
  go_loopw [8] (fun vo wr => ∃ k : Nat, k ≤ 3 ∧ vo = .int .i64 k ∧ DoI W X (U (wrap64 (a + b))) (U (wrap64 (a - b))) (U (wrap64 (a * b))) k wr) (fun vo _ => 3 - (intOf vo).toNat)
  case atStart => exact ⟨0, by omega, rfl, hI⟩
  case round =>
    obtain ⟨k, hk, rfl, hD⟩ := hrel
    clear hI
    rename World => Y0
    have hk4 : k = 0 ∨ k = 1 ∨ k = 2 ∨ k = 3 := by omega
    clear hk
    rcases hk4 with rfl | rfl | rfl | rfl
    · go_wp2_with fail
      refine (int_U a _).mono ?_
      rintro e z1 ⟨rfl, hb⟩
      replace hD := hD.below hb
      clear hb
      go_wp2_with fail
      refine (int_U b _).mono ?_
      rintro e z2 ⟨rfl, hb⟩
      replace hD := hD.below hb
      clear hb
      go_wp2_with fail
      refine (calc_add' a b _ Hha.out Hhb.out).mono ?_
      rintro e z3 ⟨rfl, hb⟩
      replace hD := hD.below hb
      clear hb
      have lX : X < z3.heap.size := hD.2.2.1
      have q0 : z3.cell? ⟨X, 0, none⟩ = some (.bool false) := (hD.2.2.2 0 (by decide)).1
      have q1 : z3.cell? ⟨X, 1, none⟩ = some (.int .u64 0) := (hD.2.2.2 0 (by decide)).2.1
      have q2 : z3.frozen? ⟨X, 0, none⟩ = false := (hD.2.2.2 0 (by decide)).2.2.1
      have q3 : z3.frozen? ⟨X, 1, none⟩ = false := (hD.2.2.2 0 (by decide)).2.2.2
      go_wp2
      exact ⟨⟨1, by omega, rfl, (DoI.store hD (by decide)).below ((Below.refl _ _).alloc (Nat.le_refl _) _)⟩, by simp [intOf]⟩
    · go_wp2_with fail
      refine (int_U a _).mono ?_
      rintro e z1 ⟨rfl, hb⟩
      replace hD := hD.below hb
      clear hb
      go_wp2_with fail
      refine (int_U b _).mono ?_
      rintro e z2 ⟨rfl, hb⟩
      replace hD := hD.below hb
      clear hb
      go_wp2_with fail
      refine (calc_sub' a b _ Hha.out Hhb.out).mono ?_
      rintro e z3 ⟨rfl, hb⟩
      replace hD := hD.below hb
      clear hb
      have lX : X < z3.heap.size := hD.2.2.1
      have q0 : z3.cell? ⟨X, 2, none⟩ = some (.bool false) := (hD.2.2.2 1 (by decide)).1
      have q1 : z3.cell? ⟨X, 3, none⟩ = some (.int .u64 0) := (hD.2.2.2 1 (by decide)).2.1
      have q2 : z3.frozen? ⟨X, 2, none⟩ = false := (hD.2.2.2 1 (by decide)).2.2.1
      have q3 : z3.frozen? ⟨X, 3, none⟩ = false := (hD.2.2.2 1 (by decide)).2.2.2
      go_wp2
      exact ⟨⟨2, by omega, rfl, (DoI.store hD (by decide)).below ((Below.refl _ _).alloc (Nat.le_refl _) _)⟩, by simp [intOf]⟩
    · go_wp2_with fail
      refine (int_U a _).mono ?_
      rintro e z1 ⟨rfl, hb⟩
      replace hD := hD.below hb
      clear hb
      go_wp2_with fail
      refine (int_U b _).mono ?_
      rintro e z2 ⟨rfl, hb⟩
      replace hD := hD.below hb
      clear hb
      go_wp2_with fail
      refine (calc_mul' a b _ Hha.out Hhb.out).mono ?_
      rintro e z3 ⟨rfl, hb⟩
      replace hD := hD.below hb
      clear hb
      have lX : X < z3.heap.size := hD.2.2.1
      have q0 : z3.cell? ⟨X, 4, none⟩ = some (.bool false) := (hD.2.2.2 2 (by decide)).1
      have q1 : z3.cell? ⟨X, 5, none⟩ = some (.int .u64 0) := (hD.2.2.2 2 (by decide)).2.1
      have q2 : z3.frozen? ⟨X, 4, none⟩ = false := (hD.2.2.2 2 (by decide)).2.2.1
      have q3 : z3.frozen? ⟨X, 5, none⟩ = false := (hD.2.2.2 2 (by decide)).2.2.2
      go_wp2
      exact ⟨⟨3, by omega, rfl, (DoI.store hD (by decide)).below ((Below.refl _ _).alloc (Nat.le_refl _) _)⟩, by simp [intOf]⟩
    · have hB := hD.1
      have d0 : Y0.cell? ⟨X, 0, none⟩ = some (.bool false) := (hD.2.2.2 0 (by decide)).1
      have d1 : Y0.cell? ⟨X, 1, none⟩ = some (.int .u64 (U (wrap64 (a + b)))) := (hD.2.2.2 0 (by decide)).2.1
      have d2 : Y0.cell? ⟨X, 2, none⟩ = some (.bool false) := (hD.2.2.2 1 (by decide)).1
      have d3 : Y0.cell? ⟨X, 3, none⟩ = some (.int .u64 (U (wrap64 (a - b)))) := (hD.2.2.2 1 (by decide)).2.1
      have d4 : Y0.cell? ⟨X, 4, none⟩ = some (.bool false) := (hD.2.2.2 2 (by decide)).1
      have d5 : Y0.cell? ⟨X, 5, none⟩ = some (.int .u64 (U (wrap64 (a * b)))) := (hD.2.2.2 2 (by decide)).2.1
      clear hD
      go_upto_region 11 with (fail)
      have hY0 : Below Y0.heap.size Y0 Y0 := Below.refl _ _
      have ld : X < Y0.heap.size := World.block_lt_of_cell? _ _ d0
      go_cut [11, 12] from 54 (fun va vb wx => ∃ p, va = .pointer (some ⟨p, 0, none⟩) ∧ vb = .int .i64 0 ∧ Below Y0.heap.size Y0 wx ∧ wx.cell? ⟨p, 0, none⟩ = some (.bool false) ∧ wx.cell? ⟨p, 1, none⟩ = some (.int .u64 (U a)))
      case first =>
        go_region_with (first
          | (go_at_call 18; refine (int_U b _).mono ?_; rintro e xa ⟨rfl, hb⟩; first | (have hY := stepB hY0.drew hb; have d0a := cell_later hY d0; have d1a := cell_later hY d1; have d2a := cell_later hY d2; have d3a := cell_later hY d3; have d4a := cell_later hY d4; have d5a := cell_later hY d5; have lda : X < xa.heap.size := World.block_lt_of_cell? _ _ d0a; clear hb) | (have hY := stepB (hY0.drew.alloc hY0.drew.size _) hb; have d0a := cell_later hY d0; have d1a := cell_later hY d1; have d2a := cell_later hY d2; have d3a := cell_later hY d3; have d4a := cell_later hY d4; have d5a := cell_later hY d5; have lda : X < xa.heap.size := World.block_lt_of_cell? _ _ d0a; have n0 : xa.cell? ⟨Y0.heap.size, 0, none⟩ = some (.bool false) := cell_later hb (by simp; done); have n1 : xa.cell? ⟨Y0.heap.size, 1, none⟩ = some (.int .u64 0) := cell_later hb (by simp; done); have n2 : xa.frozen? ⟨Y0.heap.size, 0, none⟩ = false := (hb.frozen (by simp; done)).trans (by simp; done); have n3 : xa.frozen? ⟨Y0.heap.size, 1, none⟩ = false := (hb.frozen (by simp; done)).trans (by simp; done); clear hb))
          | (go_at_call 12; refine (c_back a b _ Hhb.out).mono ?_; rintro e xb ⟨rfl, hb⟩; first | (have hZ := stepB hY hb; have d0b := cell_later hZ d0; have d1b := cell_later hZ d1; have d2b := cell_later hZ d2; have d3b := cell_later hZ d3; have d4b := cell_later hZ d4; have d5b := cell_later hZ d5; first | (have n8 := cell_later hb n0; have n9 := cell_later hb n1; have nl := World.block_lt_of_cell? _ _ n0; have n10 := (hb.frozen (p := ⟨Y0.heap.size, 0, none⟩) nl).trans n2; have n11 := (hb.frozen (p := ⟨Y0.heap.size, 1, none⟩) nl).trans n3; clear hb) | clear hb) | (have hZ := stepB (hY.alloc hY.size _) hb; have d0b := cell_later hZ d0; have d1b := cell_later hZ d1; have d2b := cell_later hZ d2; have d3b := cell_later hZ d3; have d4b := cell_later hZ d4; have d5b := cell_later hZ d5; have n4 : xb.cell? ⟨xa.heap.size, 0, none⟩ = some (.bool false) := cell_later hb (by simp; done); have n5 : xb.cell? ⟨xa.heap.size, 1, none⟩ = some (.int .u64 0) := cell_later hb (by simp; done); have n6 : xb.frozen? ⟨xa.heap.size, 0, none⟩ = false := (hb.frozen (by simp; done)).trans (by simp; done); have n7 : xb.frozen? ⟨xa.heap.size, 1, none⟩ = false := (hb.frozen (by simp; done)).trans (by simp; done); clear hb)))
        all_goals
          go_wp2_with fail
          go_meet
          first
            | exact ⟨_, rfl, rfl, hZ.alloc hZ.size _, by simp; done, by simp; done⟩
            | exact ⟨_, rfl, rfl, box_stored hZ (Nat.le_refl _) n8 n9⟩
            | exact ⟨_, rfl, rfl, box_stored hZ hY.size n4 n5⟩
      case rest =>
        obtain ⟨pk, rfl, rfl, hc, k0, k1⟩ := hcut
        rename World => yk
        clear hY0 ld
        replace hB := stepB hB hc
        replace d0 := cell_later hc d0
        replace d1 := cell_later hc d1
        replace d2 := cell_later hc d2
        replace d3 := cell_later hc d3
        replace d4 := cell_later hc d4
        replace d5 := cell_later hc d5
        clear hc
        go_upto_region 12 with (fail)
        have hY0 : Below yk.heap.size yk yk := Below.refl _ _
        have ld : X < yk.heap.size := World.block_lt_of_cell? _ _ d0
        have lk : pk < yk.heap.size := World.block_lt_of_cell? _ _ k0
        go_cut [13, 14] from 62 (fun va vb wx => ∃ p, va = .pointer (some ⟨p, 0, none⟩) ∧ vb = .int .i64 0 ∧ Below yk.heap.size yk wx ∧ wx.cell? ⟨p, 0, none⟩ = some (.bool false) ∧ wx.cell? ⟨p, 1, none⟩ = some (.int .u64 (U ((a + b) * c))))
        case first =>
          go_region_with (first
            | (go_at_call 18; refine (int_U c _).mono ?_; rintro e xa ⟨rfl, hb⟩; first | (have hY := stepB hY0.drew hb; have d0a := cell_later hY d0; have d1a := cell_later hY d1; have d2a := cell_later hY d2; have d3a := cell_later hY d3; have d4a := cell_later hY d4; have d5a := cell_later hY d5; have k0a := cell_later hY k0; have k1a := cell_later hY k1; have lda : X < xa.heap.size := World.block_lt_of_cell? _ _ d0a; have lka : pk < xa.heap.size := World.block_lt_of_cell? _ _ k0a; clear hb) | (have hY := stepB (hY0.drew.alloc hY0.drew.size _) hb; have d0a := cell_later hY d0; have d1a := cell_later hY d1; have d2a := cell_later hY d2; have d3a := cell_later hY d3; have d4a := cell_later hY d4; have d5a := cell_later hY d5; have k0a := cell_later hY k0; have k1a := cell_later hY k1; have lda : X < xa.heap.size := World.block_lt_of_cell? _ _ d0a; have lka : pk < xa.heap.size := World.block_lt_of_cell? _ _ k0a; have n0 : xa.cell? ⟨yk.heap.size, 0, none⟩ = some (.bool false) := cell_later hb (by simp; done); have n1 : xa.cell? ⟨yk.heap.size, 1, none⟩ = some (.int .u64 0) := cell_later hb (by simp; done); have n2 : xa.frozen? ⟨yk.heap.size, 0, none⟩ = false := (hb.frozen (by simp; done)).trans (by simp; done); have n3 : xa.frozen? ⟨yk.heap.size, 1, none⟩ = false := (hb.frozen (by simp; done)).trans (by simp; done); clear hb))
            | (go_at_call 12; refine (c_left a b c _ Hhc.out).mono ?_; rintro e xb ⟨rfl, hb⟩; first | (have hZ := stepB hY hb; have d0b := cell_later hZ d0; have d1b := cell_later hZ d1; have d2b := cell_later hZ d2; have d3b := cell_later hZ d3; have d4b := cell_later hZ d4; have d5b := cell_later hZ d5; have k0b := cell_later hZ k0; have k1b := cell_later hZ k1; first | (have n8 := cell_later hb n0; have n9 := cell_later hb n1; have nl := World.block_lt_of_cell? _ _ n0; have n10 := (hb.frozen (p := ⟨yk.heap.size, 0, none⟩) nl).trans n2; have n11 := (hb.frozen (p := ⟨yk.heap.size, 1, none⟩) nl).trans n3; clear hb) | clear hb) | (have hZ := stepB (hY.alloc hY.size _) hb; have d0b := cell_later hZ d0; have d1b := cell_later hZ d1; have d2b := cell_later hZ d2; have d3b := cell_later hZ d3; have d4b := cell_later hZ d4; have d5b := cell_later hZ d5; have k0b := cell_later hZ k0; have k1b := cell_later hZ k1; have n4 : xb.cell? ⟨xa.heap.size, 0, none⟩ = some (.bool false) := cell_later hb (by simp; done); have n5 : xb.cell? ⟨xa.heap.size, 1, none⟩ = some (.int .u64 0) := cell_later hb (by simp; done); have n6 : xb.frozen? ⟨xa.heap.size, 0, none⟩ = false := (hb.frozen (by simp; done)).trans (by simp; done); have n7 : xb.frozen? ⟨xa.heap.size, 1, none⟩ = false := (hb.frozen (by simp; done)).trans (by simp; done); clear hb)))
          all_goals
            go_wp2_with fail
            go_meet
            first
              | exact ⟨_, rfl, rfl, hZ.alloc hZ.size _, by simp; done, by simp; done⟩
              | exact ⟨_, rfl, rfl, box_stored hZ (Nat.le_refl _) n8 n9⟩
              | exact ⟨_, rfl, rfl, box_stored hZ hY.size n4 n5⟩
        case rest =>
          obtain ⟨pl, rfl, rfl, hc, l0, l1⟩ := hcut
          rename World => yl
          clear hY0 ld lk
          replace hB := stepB hB hc
          replace d0 := cell_later hc d0
          replace d1 := cell_later hc d1
          replace d2 := cell_later hc d2
          replace d3 := cell_later hc d3
          replace d4 := cell_later hc d4
          replace d5 := cell_later hc d5
          replace k0 := cell_later hc k0
          replace k1 := cell_later hc k1
          clear hc
          have ld : X < yl.heap.size := World.block_lt_of_cell? _ _ d0
          have lk : pk < yl.heap.size := World.block_lt_of_cell? _ _ k0
          have ll : pl < yl.heap.size := World.block_lt_of_cell? _ _ l0
          go_wp2_with fail
          clear ld lk ll
          refine (int_U a _).mono ?_
          rintro e x11 ⟨rfl, hb⟩
          replace hB := stepB hB hb
          replace d0 := cell_later hb d0
          replace d1 := cell_later hb d1
          replace d2 := cell_later hb d2
          replace d3 := cell_later hb d3
          replace d4 := cell_later hb d4
          replace d5 := cell_later hb d5
          replace k0 := cell_later hb k0
          replace k1 := cell_later hb k1
          replace l0 := cell_later hb l0
          replace l1 := cell_later hb l1
          clear hb
          have ld : X < x11.heap.size := World.block_lt_of_cell? _ _ d0
          have lk : pk < x11.heap.size := World.block_lt_of_cell? _ _ k0
          have ll : pl < x11.heap.size := World.block_lt_of_cell? _ _ l0
          go_wp2_with fail
          clear ld lk ll
          refine (int_U c _).mono ?_
          rintro e x12 ⟨rfl, hb⟩
          replace hB := stepB hB hb
          replace d0 := cell_later hb d0
          replace d1 := cell_later hb d1
          replace d2 := cell_later hb d2
          replace d3 := cell_later hb d3
          replace d4 := cell_later hb d4
          replace d5 := cell_later hb d5
          replace k0 := cell_later hb k0
          replace k1 := cell_later hb k1
          replace l0 := cell_later hb l0
          replace l1 := cell_later hb l1
          clear hb
          have ld : X < x12.heap.size := World.block_lt_of_cell? _ _ d0
          have lk : pk < x12.heap.size := World.block_lt_of_cell? _ _ k0
          have ll : pl < x12.heap.size := World.block_lt_of_cell? _ _ l0
          go_wp2_with fail
          clear ld lk ll
          refine (calc_mul' a c _ Hha.out Hhc.out).mono ?_
          rintro e x13 ⟨rfl, hb⟩
          replace hB := stepB hB hb
          replace d0 := cell_later hb d0
          replace d1 := cell_later hb d1
          replace d2 := cell_later hb d2
          replace d3 := cell_later hb d3
          replace d4 := cell_later hb d4
          replace d5 := cell_later hb d5
          replace k0 := cell_later hb k0
          replace k1 := cell_later hb k1
          replace l0 := cell_later hb l0
          replace l1 := cell_later hb l1
          clear hb
          have ld : X < x13.heap.size := World.block_lt_of_cell? _ _ d0
          have lk : pk < x13.heap.size := World.block_lt_of_cell? _ _ k0
          have ll : pl < x13.heap.size := World.block_lt_of_cell? _ _ l0
          go_wp2_with fail
          clear ld lk ll
          replace d0 := cell_later ((Below.refl _ _).alloc (Nat.le_refl _) (Obj.cells #[Value.bool false, Value.int IntKind.u64 (U (wrap64 (a * c)))] 24)) d0
          replace d1 := cell_later ((Below.refl _ _).alloc (Nat.le_refl _) (Obj.cells #[Value.bool false, Value.int IntKind.u64 (U (wrap64 (a * c)))] 24)) d1
          replace d2 := cell_later ((Below.refl _ _).alloc (Nat.le_refl _) (Obj.cells #[Value.bool false, Value.int IntKind.u64 (U (wrap64 (a * c)))] 24)) d2
          replace d3 := cell_later ((Below.refl _ _).alloc (Nat.le_refl _) (Obj.cells #[Value.bool false, Value.int IntKind.u64 (U (wrap64 (a * c)))] 24)) d3
          replace d4 := cell_later ((Below.refl _ _).alloc (Nat.le_refl _) (Obj.cells #[Value.bool false, Value.int IntKind.u64 (U (wrap64 (a * c)))] 24)) d4
          replace d5 := cell_later ((Below.refl _ _).alloc (Nat.le_refl _) (Obj.cells #[Value.bool false, Value.int IntKind.u64 (U (wrap64 (a * c)))] 24)) d5
          replace k0 := cell_later ((Below.refl _ _).alloc (Nat.le_refl _) (Obj.cells #[Value.bool false, Value.int IntKind.u64 (U (wrap64 (a * c)))] 24)) k0
          replace k1 := cell_later ((Below.refl _ _).alloc (Nat.le_refl _) (Obj.cells #[Value.bool false, Value.int IntKind.u64 (U (wrap64 (a * c)))] 24)) k1
          replace l0 := cell_later ((Below.refl _ _).alloc (Nat.le_refl _) (Obj.cells #[Value.bool false, Value.int IntKind.u64 (U (wrap64 (a * c)))] 24)) l0
          replace l1 := cell_later ((Below.refl _ _).alloc (Nat.le_refl _) (Obj.cells #[Value.bool false, Value.int IntKind.u64 (U (wrap64 (a * c)))] 24)) l1
          have p0 : (World.alloc x13 (Obj.cells #[Value.bool false, Value.int IntKind.u64 (U (wrap64 (a * c)))] 24)).cell? ⟨x13.heap.size, 0, none⟩ = some (.bool false) := by simp
          have p1 : (World.alloc x13 (Obj.cells #[Value.bool false, Value.int IntKind.u64 (U (wrap64 (a * c)))] 24)).cell? ⟨x13.heap.size, 1, none⟩ = some (.int .u64 (U (wrap64 (a * c)))) := by simp
          replace hB := hB.alloc hB.size (Obj.cells #[Value.bool false, Value.int IntKind.u64 (U (wrap64 (a * c)))] 24)
          refine (int_U b _).mono ?_
          rintro e x14 ⟨rfl, hb⟩
          replace hB := stepB hB hb
          replace d0 := cell_later hb d0
          replace d1 := cell_later hb d1
          replace d2 := cell_later hb d2
          replace d3 := cell_later hb d3
          replace d4 := cell_later hb d4
          replace d5 := cell_later hb d5
          replace k0 := cell_later hb k0
          replace k1 := cell_later hb k1
          replace l0 := cell_later hb l0
          replace l1 := cell_later hb l1
          replace p0 := cell_later hb p0
          replace p1 := cell_later hb p1
          clear hb
          have ld : X < x14.heap.size := World.block_lt_of_cell? _ _ d0
          have lk : pk < x14.heap.size := World.block_lt_of_cell? _ _ k0
          have ll : pl < x14.heap.size := World.block_lt_of_cell? _ _ l0
          have lp : x13.heap.size < x14.heap.size := World.block_lt_of_cell? _ _ p0
          go_wp2_with fail
          clear ld lk ll lp
          refine (int_U c _).mono ?_
          rintro e x15 ⟨rfl, hb⟩
          replace hB := stepB hB hb
          replace d0 := cell_later hb d0
          replace d1 := cell_later hb d1
          replace d2 := cell_later hb d2
          replace d3 := cell_later hb d3
          replace d4 := cell_later hb d4
          replace d5 := cell_later hb d5
          replace k0 := cell_later hb k0
          replace k1 := cell_later hb k1
          replace l0 := cell_later hb l0
          replace l1 := cell_later hb l1
          replace p0 := cell_later hb p0
          replace p1 := cell_later hb p1
          clear hb
          have ld : X < x15.heap.size := World.block_lt_of_cell? _ _ d0
          have lk : pk < x15.heap.size := World.block_lt_of_cell? _ _ k0
          have ll : pl < x15.heap.size := World.block_lt_of_cell? _ _ l0
          have lp : x13.heap.size < x15.heap.size := World.block_lt_of_cell? _ _ p0
          go_wp2_with fail
          clear ld lk ll lp
          refine (calc_mul' b c _ Hhb.out Hhc.out).mono ?_
          rintro e x16 ⟨rfl, hb⟩
          replace hB := stepB hB hb
          replace d0 := cell_later hb d0
          replace d1 := cell_later hb d1
          replace d2 := cell_later hb d2
          replace d3 := cell_later hb d3
          replace d4 := cell_later hb d4
          replace d5 := cell_later hb d5
          replace k0 := cell_later hb k0
          replace k1 := cell_later hb k1
          replace l0 := cell_later hb l0
          replace l1 := cell_later hb l1
          replace p0 := cell_later hb p0
          replace p1 := cell_later hb p1
          clear hb
          have ld : X < x16.heap.size := World.block_lt_of_cell? _ _ d0
          have lk : pk < x16.heap.size := World.block_lt_of_cell? _ _ k0
          have ll : pl < x16.heap.size := World.block_lt_of_cell? _ _ l0
          have lp : x13.heap.size < x16.heap.size := World.block_lt_of_cell? _ _ p0
          go_wp2_with fail
          clear ld lk ll lp
          replace d0 := cell_later ((Below.refl _ _).alloc (Nat.le_refl _) (Obj.cells #[Value.bool false, Value.int IntKind.u64 (U (wrap64 (b * c)))] 24)) d0
          replace d1 := cell_later ((Below.refl _ _).alloc (Nat.le_refl _) (Obj.cells #[Value.bool false, Value.int IntKind.u64 (U (wrap64 (b * c)))] 24)) d1
          replace d2 := cell_later ((Below.refl _ _).alloc (Nat.le_refl _) (Obj.cells #[Value.bool false, Value.int IntKind.u64 (U (wrap64 (b * c)))] 24)) d2
          replace d3 := cell_later ((Below.refl _ _).alloc (Nat.le_refl _) (Obj.cells #[Value.bool false, Value.int IntKind.u64 (U (wrap64 (b * c)))] 24)) d3
          replace d4 := cell_later ((Below.refl _ _).alloc (Nat.le_refl _) (Obj.cells #[Value.bool false, Value.int IntKind.u64 (U (wrap64 (b * c)))] 24)) d4
          replace d5 := cell_later ((Below.refl _ _).alloc (Nat.le_refl _) (Obj.cells #[Value.bool false, Value.int IntKind.u64 (U (wrap64 (b * c)))] 24)) d5
          replace k0 := cell_later ((Below.refl _ _).alloc (Nat.le_refl _) (Obj.cells #[Value.bool false, Value.int IntKind.u64 (U (wrap64 (b * c)))] 24)) k0
          replace k1 := cell_later ((Below.refl _ _).alloc (Nat.le_refl _) (Obj.cells #[Value.bool false, Value.int IntKind.u64 (U (wrap64 (b * c)))] 24)) k1
          replace l0 := cell_later ((Below.refl _ _).alloc (Nat.le_refl _) (Obj.cells #[Value.bool false, Value.int IntKind.u64 (U (wrap64 (b * c)))] 24)) l0
          replace l1 := cell_later ((Below.refl _ _).alloc (Nat.le_refl _) (Obj.cells #[Value.bool false, Value.int IntKind.u64 (U (wrap64 (b * c)))] 24)) l1
          replace p0 := cell_later ((Below.refl _ _).alloc (Nat.le_refl _) (Obj.cells #[Value.bool false, Value.int IntKind.u64 (U (wrap64 (b * c)))] 24)) p0
          replace p1 := cell_later ((Below.refl _ _).alloc (Nat.le_refl _) (Obj.cells #[Value.bool false, Value.int IntKind.u64 (U (wrap64 (b * c)))] 24)) p1
          have q0 : (World.alloc x16 (Obj.cells #[Value.bool false, Value.int IntKind.u64 (U (wrap64 (b * c)))] 24)).cell? ⟨x16.heap.size, 0, none⟩ = some (.bool false) := by simp
          have q1 : (World.alloc x16 (Obj.cells #[Value.bool false, Value.int IntKind.u64 (U (wrap64 (b * c)))] 24)).cell? ⟨x16.heap.size, 1, none⟩ = some (.int .u64 (U (wrap64 (b * c)))) := by simp
          replace hB := hB.alloc hB.size (Obj.cells #[Value.bool false, Value.int IntKind.u64 (U (wrap64 (b * c)))] 24)
          refine (c_right a b c _).mono ?_
          rintro e x17 ⟨rfl, hb⟩
          replace hB := stepB hB hb
          replace d0 := cell_later hb d0
          replace d1 := cell_later hb d1
          replace d2 := cell_later hb d2
          replace d3 := cell_later hb d3
          replace d4 := cell_later hb d4
          replace d5 := cell_later hb d5
          replace k0 := cell_later hb k0
          replace k1 := cell_later hb k1
          replace l0 := cell_later hb l0
          replace l1 := cell_later hb l1
          replace p0 := cell_later hb p0
          replace p1 := cell_later hb p1
          replace q0 := cell_later hb q0
          replace q1 := cell_later hb q1
          clear hb
          have ld : X < x17.heap.size := World.block_lt_of_cell? _ _ d0
          have lk : pk < x17.heap.size := World.block_lt_of_cell? _ _ k0
          have ll : pl < x17.heap.size := World.block_lt_of_cell? _ _ l0
          have lp : x13.heap.size < x17.heap.size := World.block_lt_of_cell? _ _ p0
          have lq : x16.heap.size < x17.heap.size := World.block_lt_of_cell? _ _ q0
          go_wp2_with fail
          clear ld lk ll lp lq
          clear p0 p1 q0 q1 d0 d1 d2 d3
          replace d4 := cell_later ((Below.refl _ _).alloc (Nat.le_refl _) (Obj.cells #[Value.bool false, Value.int IntKind.u64 (U ((a + b) * c))] 24)) d4
          replace d5 := cell_later ((Below.refl _ _).alloc (Nat.le_refl _) (Obj.cells #[Value.bool false, Value.int IntKind.u64 (U ((a + b) * c))] 24)) d5
          replace k0 := cell_later ((Below.refl _ _).alloc (Nat.le_refl _) (Obj.cells #[Value.bool false, Value.int IntKind.u64 (U ((a + b) * c))] 24)) k0
          replace k1 := cell_later ((Below.refl _ _).alloc (Nat.le_refl _) (Obj.cells #[Value.bool false, Value.int IntKind.u64 (U ((a + b) * c))] 24)) k1
          replace l0 := cell_later ((Below.refl _ _).alloc (Nat.le_refl _) (Obj.cells #[Value.bool false, Value.int IntKind.u64 (U ((a + b) * c))] 24)) l0
          replace l1 := cell_later ((Below.refl _ _).alloc (Nat.le_refl _) (Obj.cells #[Value.bool false, Value.int IntKind.u64 (U ((a + b) * c))] 24)) l1
          have r0 : (World.alloc x17 (Obj.cells #[Value.bool false, Value.int IntKind.u64 (U ((a + b) * c))] 24)).cell? ⟨x17.heap.size, 0, none⟩ = some (.bool false) := by simp
          have r1 : (World.alloc x17 (Obj.cells #[Value.bool false, Value.int IntKind.u64 (U ((a + b) * c))] 24)).cell? ⟨x17.heap.size, 1, none⟩ = some (.int .u64 (U ((a + b) * c))) := by simp
          replace hB := hB.alloc hB.size (Obj.cells #[Value.bool false, Value.int IntKind.u64 (U ((a + b) * c))] 24)
          refine (int_U b _).mono ?_
          rintro e x18 ⟨rfl, hb⟩
          replace hB := stepB hB hb
          replace d4 := cell_later hb d4
          replace d5 := cell_later hb d5
          replace k0 := cell_later hb k0
          replace k1 := cell_later hb k1
          replace l0 := cell_later hb l0
          replace l1 := cell_later hb l1
          replace r0 := cell_later hb r0
          replace r1 := cell_later hb r1
          clear hb
          have ld : X < x18.heap.size := World.block_lt_of_cell? _ _ d4
          have lk : pk < x18.heap.size := World.block_lt_of_cell? _ _ k0
          have ll : pl < x18.heap.size := World.block_lt_of_cell? _ _ l0
          have lr : x17.heap.size < x18.heap.size := World.block_lt_of_cell? _ _ r0
          go_wp2_with fail
          clear ld lk ll lr
          refine (int_U a _).mono ?_
          rintro e x19 ⟨rfl, hb⟩
          replace hB := stepB hB hb
          replace d4 := cell_later hb d4
          replace d5 := cell_later hb d5
          replace k0 := cell_later hb k0
          replace k1 := cell_later hb k1
          replace l0 := cell_later hb l0
          replace l1 := cell_later hb l1
          replace r0 := cell_later hb r0
          replace r1 := cell_later hb r1
          clear hb
          have ld : X < x19.heap.size := World.block_lt_of_cell? _ _ d4
          have lk : pk < x19.heap.size := World.block_lt_of_cell? _ _ k0
          have ll : pl < x19.heap.size := World.block_lt_of_cell? _ _ l0
          have lr : x17.heap.size < x19.heap.size := World.block_lt_of_cell? _ _ r0
          go_wp2_with fail
          clear ld lk ll lr
          refine (c_turned a b _ Hha.out Hhb.out).mono ?_
          rintro e x20 ⟨rfl, hb⟩
          replace hB := stepB hB hb
          replace d4 := cell_later hb d4
          replace d5 := cell_later hb d5
          replace k0 := cell_later hb k0
          replace k1 := cell_later hb k1
          replace l0 := cell_later hb l0
          replace l1 := cell_later hb l1
          replace r0 := cell_later hb r0
          replace r1 := cell_later hb r1
          clear hb
          have ld : X < x20.heap.size := World.block_lt_of_cell? _ _ d4
          have lk : pk < x20.heap.size := World.block_lt_of_cell? _ _ k0
          have ll : pl < x20.heap.size := World.block_lt_of_cell? _ _ l0
          have lr : x17.heap.size < x20.heap.size := World.block_lt_of_cell? _ _ r0
          go_wp2_with fail
          clear ld lk ll lr
          replace d4 := cell_later ((Below.refl _ _).alloc (Nat.le_refl _) (Obj.cells #[Value.bool false, Value.int IntKind.u64 (U (wrap64 (a * b)))] 24)) d4
          replace d5 := cell_later ((Below.refl _ _).alloc (Nat.le_refl _) (Obj.cells #[Value.bool false, Value.int IntKind.u64 (U (wrap64 (a * b)))] 24)) d5
          replace k0 := cell_later ((Below.refl _ _).alloc (Nat.le_refl _) (Obj.cells #[Value.bool false, Value.int IntKind.u64 (U (wrap64 (a * b)))] 24)) k0
          replace k1 := cell_later ((Below.refl _ _).alloc (Nat.le_refl _) (Obj.cells #[Value.bool false, Value.int IntKind.u64 (U (wrap64 (a * b)))] 24)) k1
          replace l0 := cell_later ((Below.refl _ _).alloc (Nat.le_refl _) (Obj.cells #[Value.bool false, Value.int IntKind.u64 (U (wrap64 (a * b)))] 24)) l0
          replace l1 := cell_later ((Below.refl _ _).alloc (Nat.le_refl _) (Obj.cells #[Value.bool false, Value.int IntKind.u64 (U (wrap64 (a * b)))] 24)) l1
          replace r0 := cell_later ((Below.refl _ _).alloc (Nat.le_refl _) (Obj.cells #[Value.bool false, Value.int IntKind.u64 (U (wrap64 (a * b)))] 24)) r0
          replace r1 := cell_later ((Below.refl _ _).alloc (Nat.le_refl _) (Obj.cells #[Value.bool false, Value.int IntKind.u64 (U (wrap64 (a * b)))] 24)) r1
          have t0 : (World.alloc x20 (Obj.cells #[Value.bool false, Value.int IntKind.u64 (U (wrap64 (a * b)))] 24)).cell? ⟨x20.heap.size, 0, none⟩ = some (.bool false) := by simp
          have t1 : (World.alloc x20 (Obj.cells #[Value.bool false, Value.int IntKind.u64 (U (wrap64 (a * b)))] 24)).cell? ⟨x20.heap.size, 1, none⟩ = some (.int .u64 (U (wrap64 (a * b)))) := by simp
          replace hB := hB.alloc hB.size (Obj.cells #[Value.bool false, Value.int IntKind.u64 (U (wrap64 (a * b)))] 24)
          go_region_held3 (fun w' => Below W.heap.size W w' ∧ w'.cell? ⟨X, 4, none⟩ = some (.bool false) ∧ w'.cell? ⟨X, 5, none⟩ = some (.int .u64 (U (wrap64 (a * b)))) ∧ w'.cell? ⟨pk, 0, none⟩ = some (.bool false) ∧ w'.cell? ⟨pk, 1, none⟩ = some (.int .u64 (U a)) ∧ w'.cell? ⟨pl, 0, none⟩ = some (.bool false) ∧ w'.cell? ⟨pl, 1, none⟩ = some (.int .u64 (U ((a + b) * c))) ∧ w'.cell? ⟨x17.heap.size, 0, none⟩ = some (.bool false) ∧ w'.cell? ⟨x17.heap.size, 1, none⟩ = some (.int .u64 (U ((a + b) * c))) ∧ w'.cell? ⟨x20.heap.size, 0, none⟩ = some (.bool false) ∧ w'.cell? ⟨x20.heap.size, 1, none⟩ = some (.int .u64 (U (wrap64 (a * b)))))
            (first
              | exact keepc10 ⟨hB, d4, d5, k0, k1, l0, l1, r0, r1, t0, t1⟩ (Below.refl _ _).drew
              | exact hK
              | exact keepc10 hK ((Below.refl _ _).alloc (Nat.le_refl _) _)
              | exact keepc10 (by assumption) hb)
            (first
              | (go_at_call 18; refine (int_U a _).mono ?_; rintro e xe ⟨rfl, hb⟩; have hK := keepc10 (by assumption) hb; clear hb))
          clear hB d4 d5 k0 k1 l0 l1 r0 r1 t0 t1
          obtain ⟨hB, d4, d5, k0, k1, l0, l1, r0, r1, t0, t1⟩ := hK
          clear d4 d5 k0 k1 l0 l1 r0 r1 t0 t1
          go_wp2_with fail
          refine (int_U a _).mono ?_
          rintro e x21 ⟨rfl, hb⟩
          replace hB := stepB hB hb
          clear hb
          go_wp2_with fail
          refine (int_U b _).mono ?_
          rintro e x22 ⟨rfl, hb⟩
          replace hB := stepB hB hb
          clear hb
          go_wp2_with fail
          refine (Hcdiv.out _).mono ?_
          rintro e x23 ⟨rfl, hb⟩
          replace hB := stepB hB hb
          clear hb
          go_wp2_with fail
          have x0 : (World.alloc x23 (Obj.cells #[Value.bool false, Value.int IntKind.u64 (U (wrap64 q))] 24)).cell? ⟨x23.heap.size, 0, none⟩ = some (.bool false) := by simp
          have x1 : (World.alloc x23 (Obj.cells #[Value.bool false, Value.int IntKind.u64 (U (wrap64 q))] 24)).cell? ⟨x23.heap.size, 1, none⟩ = some (.int .u64 (U (wrap64 q))) := by simp
          replace hB := hB.alloc hB.size (Obj.cells #[Value.bool false, Value.int IntKind.u64 (U (wrap64 q))] 24)
          refine (int_U a _).mono ?_
          rintro e x24 ⟨rfl, hb⟩
          replace hB := stepB hB hb
          replace x0 := cell_later hb x0
          replace x1 := cell_later hb x1
          clear hb
          have lx : x23.heap.size < x24.heap.size := World.block_lt_of_cell? _ _ x0
          go_wp2_with fail
          clear lx
          refine (int_U b _).mono ?_
          rintro e x25 ⟨rfl, hb⟩
          replace hB := stepB hB hb
          replace x0 := cell_later hb x0
          replace x1 := cell_later hb x1
          clear hb
          have lx : x23.heap.size < x25.heap.size := World.block_lt_of_cell? _ _ x0
          go_wp2_with fail
          clear lx
          refine (Hcrem.out _).mono ?_
          rintro e x26 ⟨rfl, hb⟩
          replace hB := stepB hB hb
          replace x0 := cell_later hb x0
          replace x1 := cell_later hb x1
          clear hb
          go_upto_region 21 with (fail)
          replace x0 := cell_later ((Below.refl _ _).alloc (Nat.le_refl _) (Obj.cells #[Value.bool false, Value.int IntKind.u64 (U r)] 24)) x0
          replace x1 := cell_later ((Below.refl _ _).alloc (Nat.le_refl _) (Obj.cells #[Value.bool false, Value.int IntKind.u64 (U r)] 24)) x1
          have r0 : (World.alloc x26 (Obj.cells #[Value.bool false, Value.int IntKind.u64 (U r)] 24)).cell? ⟨x26.heap.size, 0, none⟩ = some (.bool false) := by simp
          have r1 : (World.alloc x26 (Obj.cells #[Value.bool false, Value.int IntKind.u64 (U r)] 24)).cell? ⟨x26.heap.size, 1, none⟩ = some (.int .u64 (U r)) := by simp
          replace hB := hB.alloc hB.size (Obj.cells #[Value.bool false, Value.int IntKind.u64 (U r)] 24)
          go_cut [148] from 131 (fun va wx => va = .bool false ∧ Below (x26.alloc (Obj.cells #[Value.bool false, Value.int IntKind.u64 (U r)] 24)).heap.size (x26.alloc (Obj.cells #[Value.bool false, Value.int IntKind.u64 (U r)] 24)) wx)
          case first =>
            rcases Hhov.out with h1 | h2
            · have h0 := Hhb0.out
              go_wp2_with fail
              all_goals (go_meet; exact ⟨rfl, Below.refl _ _⟩)
            · have h0 := Hhb0.out
              rcases Bool.eq_false_or_eq_true (a == -9223372036854775808) with h1 | h1
              all_goals (go_wp2_with fail; go_meet; exact ⟨rfl, Below.refl _ _⟩)
          case rest =>
            obtain ⟨rfl, hc⟩ := hcut
            rename World => yv
            replace hB := stepB hB hc
            replace x0 := cell_later hc x0
            replace x1 := cell_later hc x1
            replace r0 := cell_later hc r0
            replace r1 := cell_later hc r1
            clear hc
            go_upto_region 25 with (fail)
            have hY0 : Below yv.heap.size yv yv := Below.refl _ _
            have lx : x23.heap.size < yv.heap.size := World.block_lt_of_cell? _ _ x0
            have lr : x26.heap.size < yv.heap.size := World.block_lt_of_cell? _ _ r0
            go_cut [27, 28] from 151 (fun va vb wx => ∃ p, va = .pointer (some ⟨p, 0, none⟩) ∧ vb = .int .i64 0 ∧ Below yv.heap.size yv wx ∧ wx.cell? ⟨p, 0, none⟩ = some (.bool false) ∧ wx.cell? ⟨p, 1, none⟩ = some (.int .u64 (U (wrap64 (q * b)))))
            case first =>
              go_region_with (first
                | (go_at_call 18; refine (int_U b _).mono ?_; rintro e xa ⟨rfl, hb⟩; first | (have hY := stepB hY0.drew hb; have x0a := cell_later hY x0; have x1a := cell_later hY x1; have r0a := cell_later hY r0; have r1a := cell_later hY r1; have lxa : x23.heap.size < xa.heap.size := World.block_lt_of_cell? _ _ x0a; have lra : x26.heap.size < xa.heap.size := World.block_lt_of_cell? _ _ r0a; clear hb) | (have hY := stepB (hY0.drew.alloc hY0.drew.size _) hb; have x0a := cell_later hY x0; have x1a := cell_later hY x1; have r0a := cell_later hY r0; have r1a := cell_later hY r1; have lxa : x23.heap.size < xa.heap.size := World.block_lt_of_cell? _ _ x0a; have lra : x26.heap.size < xa.heap.size := World.block_lt_of_cell? _ _ r0a; have n0 : xa.cell? ⟨yv.heap.size, 0, none⟩ = some (.bool false) := cell_later hb (by simp; done); have n1 : xa.cell? ⟨yv.heap.size, 1, none⟩ = some (.int .u64 0) := cell_later hb (by simp; done); have n2 : xa.frozen? ⟨yv.heap.size, 0, none⟩ = false := (hb.frozen (by simp; done)).trans (by simp; done); have n3 : xa.frozen? ⟨yv.heap.size, 1, none⟩ = false := (hb.frozen (by simp; done)).trans (by simp; done); clear hb))
                | (go_at_call 12; refine (Hcy.out _).mono ?_; rintro e xb ⟨rfl, hb⟩; first | (have hZ := stepB hY hb; have x0b := cell_later hZ x0; have x1b := cell_later hZ x1; have r0b := cell_later hZ r0; have r1b := cell_later hZ r1; first | (have n8 := cell_later hb n0; have n9 := cell_later hb n1; have nl := World.block_lt_of_cell? _ _ n0; have n10 := (hb.frozen (p := ⟨yv.heap.size, 0, none⟩) nl).trans n2; have n11 := (hb.frozen (p := ⟨yv.heap.size, 1, none⟩) nl).trans n3; clear hb) | clear hb) | (have hZ := stepB (hY.alloc hY.size _) hb; have x0b := cell_later hZ x0; have x1b := cell_later hZ x1; have r0b := cell_later hZ r0; have r1b := cell_later hZ r1; have n4 : xb.cell? ⟨xa.heap.size, 0, none⟩ = some (.bool false) := cell_later hb (by simp; done); have n5 : xb.cell? ⟨xa.heap.size, 1, none⟩ = some (.int .u64 0) := cell_later hb (by simp; done); have n6 : xb.frozen? ⟨xa.heap.size, 0, none⟩ = false := (hb.frozen (by simp; done)).trans (by simp; done); have n7 : xb.frozen? ⟨xa.heap.size, 1, none⟩ = false := (hb.frozen (by simp; done)).trans (by simp; done); clear hb)))
              all_goals
                go_wp2_with fail
                go_meet
                first
                  | exact ⟨_, rfl, rfl, hZ.alloc hZ.size _, by simp; done, by simp; done⟩
                  | exact ⟨_, rfl, rfl, box_stored hZ (Nat.le_refl _) n8 n9⟩
                  | exact ⟨_, rfl, rfl, box_stored hZ hY.size n4 n5⟩
            case rest =>
              obtain ⟨py, rfl, rfl, hc, y0, y1⟩ := hcut
              rename World => yy
              clear hY0 lx lr
              replace hB := stepB hB hc
              replace x0 := cell_later hc x0
              replace x1 := cell_later hc x1
              replace r0 := cell_later hc r0
              replace r1 := cell_later hc r1
              clear hc
              have lx : x23.heap.size < yy.heap.size := World.block_lt_of_cell? _ _ x0
              have lr : x26.heap.size < yy.heap.size := World.block_lt_of_cell? _ _ r0
              have ly : py < yy.heap.size := World.block_lt_of_cell? _ _ y0
              go_wp2_with fail
              clear lx lr ly
              refine (Hcz.out _).mono ?_
              rintro e x27 ⟨rfl, hb⟩
              replace hB := stepB hB hb
              replace x0 := cell_later hb x0
              replace x1 := cell_later hb x1
              replace r0 := cell_later hb r0
              replace r1 := cell_later hb r1
              replace y0 := cell_later hb y0
              replace y1 := cell_later hb y1
              clear hb
              clear y0 y1 x0 x1
              have hw : IntKind.i64.wrap (U r) = r := Hhw.out
              clear Hhw Hcdiv Hcrem Hcy Hcz Hhov Hhb0 Hha Hhb Hhc hA
              rcases Hhs.out with ⟨t1, t2, t3⟩ | ⟨t1, t2⟩
              · rcases Hhr.out with e1 | ⟨e1, e2, e3⟩ | ⟨e1, e2, e3⟩
                · clear Hhs Hhr
                  have lr := World.block_lt_of_cell? _ _ r0
                  go_wp2_with fail
                  have hB2 := hB.alloc hB.size (Obj.cells #[Value.bool false, Value.int IntKind.u64 (U a)] 24)
                  have z0 : (World.alloc x27 (Obj.cells #[Value.bool false, Value.int IntKind.u64 (U a)] 24)).cell? ⟨x27.heap.size, 0, none⟩ = some (.bool false) := by simp
                  have z1 : (World.alloc x27 (Obj.cells #[Value.bool false, Value.int IntKind.u64 (U a)] 24)).cell? ⟨x27.heap.size, 1, none⟩ = some (.int .u64 (U a)) := by simp
                  generalize hQ : World.alloc x27 (Obj.cells #[Value.bool false, Value.int IntKind.u64 (U a)] 24) = Q at hB2 z0 z1 ⊢
                  clear hQ
                  refine wp_region_held_drew (S := (fun w' => Below W.heap.size W w' ∧ w'.cell? ⟨x27.heap.size, 0, none⟩ = some (.bool false) ∧ w'.cell? ⟨x27.heap.size, 1, none⟩ = some (.int .u64 (U a)))) (by kernel_rfl) (keepc2 ⟨hB2, z0, z1⟩ (Below.refl _ _).drew) (fun hHeld => ?_)
                  refine wpAnyH_take (i := 0) (oi := { dst := some 183, op := Op.load 24 (Operand.tmp 29), type := 24, pos := "law.go:96", after := #[], guard := none }) (v := ?_) rfl (by kernel_rfl) (by kernel_rfl) (by kernel_rfl) (fun _ _ _ h => h) (Or.inl ⟨by rfl, ?_⟩) (by assumption) ?_
                  rotate_left
                  · (intro w hSw; (try dsimp only at hSw); go_simp; first | done | with_reducible rfl)
                  try simp only [Act.put, List.setIfInBounds_toArray, List.set_cons_zero, List.set_cons_succ]
                  refine wpAnyH_take (i := 1) (oi := { dst := some 184, op := Op.move (Operand.tmp 0), type := 2, pos := "law.go:96", after := #[], guard := none }) (v := ?_) rfl (by kernel_rfl) (by kernel_rfl) (by kernel_rfl) (fun _ _ _ h => h) (Or.inl ⟨by rfl, ?_⟩) (by assumption) ?_
                  rotate_left
                  · (intro w hSw; (try dsimp only at hSw); go_simp; first | done | with_reducible rfl)
                  try simp only [Act.put, List.setIfInBounds_toArray, List.set_cons_zero, List.set_cons_succ]
                  refine wpAnyH_ready (rs := [2]) (by kernel_rfl) (by simp) ?_
                  refine AllReadyH.cons (o := { dst := some 185, op := Op.call { callee := Callee.value (Operand.func 18), args := #[Operand.tmp 184], argTypes := #[2] }, type := 24, pos := "law.go:96", after := #[{ on := 1, ground := Ground.data }], guard := none }) rfl (fun K hK => ?_) AllReadyH.nil
                  go_simp
                  go_at_call 18; refine (int_U a _).mono ?_; rintro e xa ⟨rfl, hb⟩
                  go_wp2_with fail
                  refine hK.out _ _ (keepc2 hHeld hb) (fun hHeld2 => ?_)
                  clear hK K hHeld hb
                  try simp only [Act.put, List.setIfInBounds_toArray, List.set_cons_zero, List.set_cons_succ]
                  refine wpAnyH_take (i := 3) (oi := { dst := some 186, op := Op.binOp BinOp.eql 24 (Operand.tmp 183) (Operand.tmp 185) 24, type := 4, pos := "law.go:96", after := #[{ on := 0, ground := Ground.data }, { on := 2, ground := Ground.data }], guard := none }) (v := ?_) rfl (by kernel_rfl) (by kernel_rfl) (by kernel_rfl) (fun _ _ _ h => h) (Or.inl ⟨by rfl, ?_⟩) (by assumption) ?_
                  rotate_left
                  · (intro w hSw; (try dsimp only at hSw); go_simp; first | done | with_reducible rfl)
                  try simp only [Act.put, List.setIfInBounds_toArray, List.set_cons_zero, List.set_cons_succ]
                  refine wpAnyH_take (i := 4) (oi := { dst := some 187, op := Op.move (Operand.tmp 186), type := 4, pos := "law.go:96", after := #[{ on := 3, ground := Ground.data }, { on := 2, ground := Ground.chain }], guard := none }) (v := ?_) rfl (by kernel_rfl) (by kernel_rfl) (by kernel_rfl) (fun _ _ _ h => h) (Or.inl ⟨by rfl, ?_⟩) (by assumption) ?_
                  rotate_left
                  · (intro w hSw; (try dsimp only at hSw); go_simp; first | done | with_reducible rfl)
                  try simp only [Act.put, List.setIfInBounds_toArray, List.set_cons_zero, List.set_cons_succ]
                  refine wpAnyH_take (i := 5) (oi := { dst := some 188, op := Op.move (Operand.tmp 31), type := 2, pos := "law.go:96", after := #[{ on := 4, ground := Ground.guard }], guard := some (4, true) }) (v := ?_) rfl (by kernel_rfl) (by kernel_rfl) (by kernel_rfl) (fun _ _ _ h => h) (Or.inl ⟨by rfl, ?_⟩) (by assumption) ?_
                  rotate_left
                  · (intro w hSw; (try dsimp only at hSw); go_simp; first | done | with_reducible rfl)
                  try simp only [Act.put, List.setIfInBounds_toArray, List.set_cons_zero, List.set_cons_succ]
                  refine wpAnyH_take (i := 6) (oi := { dst := some 189, op := Op.binOp BinOp.eql 2 (Operand.tmp 188) (Operand.const (Value.int IntKind.i64 0)) 2, type := 4, pos := "law.go:96", after := #[{ on := 5, ground := Ground.data }, { on := 4, ground := Ground.guard }], guard := some (4, true) }) (v := ?_) rfl (by kernel_rfl) (by kernel_rfl) (by kernel_rfl) (fun _ _ _ h => h) (Or.inl ⟨by rfl, ?_⟩) (by assumption) ?_
                  rotate_left
                  · (intro w hSw; (try dsimp only at hSw); go_simp; first | done | with_reducible rfl)
                  try simp only [Act.put, List.setIfInBounds_toArray, List.set_cons_zero, List.set_cons_succ]
                  refine wpAnyH_take (i := 7) (oi := { dst := some 190, op := Op.move (Operand.tmp 189), type := 4, pos := "law.go:96", after := #[{ on := 6, ground := Ground.data }, { on := 4, ground := Ground.chain }, { on := 4, ground := Ground.guard }], guard := some (4, true) }) (v := ?_) rfl (by kernel_rfl) (by kernel_rfl) (by kernel_rfl) (fun _ _ _ h => h) (Or.inl ⟨by rfl, ?_⟩) (by assumption) ?_
                  rotate_left
                  · (intro w hSw; (try dsimp only at hSw); go_simp; first | done | with_reducible rfl)
                  try simp only [Act.put, List.setIfInBounds_toArray, List.set_cons_zero, List.set_cons_succ]
                  refine wpAnyH_take (i := 8) (oi := { dst := some 191, op := Op.move (Operand.tmp 31), type := 2, pos := "law.go:96", after := #[{ on := 7, ground := Ground.guard }], guard := some (7, false) }) (v := undef) rfl (by kernel_rfl) (by kernel_rfl) (by kernel_rfl) (fun _ _ _ h => h) (Or.inr ⟨by rfl, rfl⟩) (by assumption) ?_
                  try simp only [Act.put, List.setIfInBounds_toArray, List.set_cons_zero, List.set_cons_succ]
                  refine wpAnyH_take (i := 9) (oi := { dst := some 192, op := Op.binOp BinOp.lss 2 (Operand.tmp 191) (Operand.const (Value.int IntKind.i64 0)) 2, type := 4, pos := "law.go:96", after := #[{ on := 8, ground := Ground.data }, { on := 7, ground := Ground.guard }], guard := some (7, false) }) (v := undef) rfl (by kernel_rfl) (by kernel_rfl) (by kernel_rfl) (fun _ _ _ h => h) (Or.inr ⟨by rfl, rfl⟩) (by assumption) ?_
                  try simp only [Act.put, List.setIfInBounds_toArray, List.set_cons_zero, List.set_cons_succ]
                  refine wpAnyH_take (i := 10) (oi := { dst := some 193, op := Op.move (Operand.tmp 0), type := 2, pos := "law.go:96", after := #[{ on := 7, ground := Ground.guard }], guard := some (7, false) }) (v := undef) rfl (by kernel_rfl) (by kernel_rfl) (by kernel_rfl) (fun _ _ _ h => h) (Or.inr ⟨by rfl, rfl⟩) (by assumption) ?_
                  try simp only [Act.put, List.setIfInBounds_toArray, List.set_cons_zero, List.set_cons_succ]
                  refine wpAnyH_take (i := 11) (oi := { dst := some 194, op := Op.binOp BinOp.lss 2 (Operand.tmp 193) (Operand.const (Value.int IntKind.i64 0)) 2, type := 4, pos := "law.go:96", after := #[{ on := 10, ground := Ground.data }, { on := 7, ground := Ground.guard }], guard := some (7, false) }) (v := undef) rfl (by kernel_rfl) (by kernel_rfl) (by kernel_rfl) (fun _ _ _ h => h) (Or.inr ⟨by rfl, rfl⟩) (by assumption) ?_
                  try simp only [Act.put, List.setIfInBounds_toArray, List.set_cons_zero, List.set_cons_succ]
                  refine wpAnyH_take (i := 12) (oi := { dst := some 195, op := Op.binOp BinOp.eql 4 (Operand.tmp 192) (Operand.tmp 194) 4, type := 4, pos := "law.go:96", after := #[{ on := 9, ground := Ground.data }, { on := 11, ground := Ground.data }, { on := 7, ground := Ground.guard }], guard := some (7, false) }) (v := undef) rfl (by kernel_rfl) (by kernel_rfl) (by kernel_rfl) (fun _ _ _ h => h) (Or.inr ⟨by rfl, rfl⟩) (by assumption) ?_
                  try simp only [Act.put, List.setIfInBounds_toArray, List.set_cons_zero, List.set_cons_succ]
                  refine wpAnyH_take (i := 13) (oi := { dst := some 196, op := Op.pick (Operand.tmp 190) (Operand.const (Value.bool true)) (Operand.tmp 195), type := 4, pos := "law.go:96", after := #[{ on := 7, ground := Ground.data }, { on := 12, ground := Ground.data }, { on := 4, ground := Ground.guard }], guard := some (4, true) }) (v := ?_) rfl (by kernel_rfl) (by kernel_rfl) (by kernel_rfl) (fun _ _ _ h => h) (Or.inl ⟨by rfl, ?_⟩) (by assumption) ?_
                  rotate_left
                  · (intro w hSw; (try dsimp only at hSw); go_simp; first | done | with_reducible rfl)
                  try simp only [Act.put, List.setIfInBounds_toArray, List.set_cons_zero, List.set_cons_succ]
                  refine wpAnyH_take (i := 14) (oi := { dst := some 197, op := Op.pick (Operand.tmp 187) (Operand.tmp 196) (Operand.const (Value.bool false)), type := 4, pos := "law.go:96", after := #[{ on := 4, ground := Ground.data }, { on := 13, ground := Ground.data }], guard := none }) (v := ?_) rfl (by kernel_rfl) (by kernel_rfl) (by kernel_rfl) (fun _ _ _ h => h) (Or.inl ⟨by rfl, ?_⟩) (by assumption) ?_
                  rotate_left
                  · (intro w hSw; (try dsimp only at hSw); go_simp; first | done | with_reducible rfl)
                  try simp only [Act.put, List.setIfInBounds_toArray, List.set_cons_zero, List.set_cons_succ]
                  refine wpAnyH_take (i := 15) (oi := { dst := some 198, op := Op.move (Operand.tmp 197), type := 4, pos := "law.go:96", after := #[{ on := 14, ground := Ground.data }, { on := 7, ground := Ground.chain }], guard := none }) (v := ?_) rfl (by kernel_rfl) (by kernel_rfl) (by kernel_rfl) (fun _ _ _ h => h) (Or.inl ⟨by rfl, ?_⟩) (by assumption) ?_
                  rotate_left
                  · (intro w hSw; (try dsimp only at hSw); go_simp; first | done | with_reducible rfl)
                  try simp only [Act.put, List.setIfInBounds_toArray, List.set_cons_zero, List.set_cons_succ]
                  refine wpAnyH_take (i := 16) (oi := { dst := some 199, op := Op.move (Operand.tmp 32), type := 4, pos := "law.go:96", after := #[{ on := 15, ground := Ground.guard }], guard := some (15, true) }) (v := ?_) rfl (by kernel_rfl) (by kernel_rfl) (by kernel_rfl) (fun _ _ _ h => h) (Or.inl ⟨by rfl, ?_⟩) (by assumption) ?_
                  rotate_left
                  · (intro w hSw; (try dsimp only at hSw); go_simp; first | done | with_reducible rfl)
                  try simp only [Act.put, List.setIfInBounds_toArray, List.set_cons_zero, List.set_cons_succ]
                  refine wpAnyH_take (i := 17) (oi := { dst := some 200, op := Op.pick (Operand.tmp 198) (Operand.tmp 199) (Operand.const (Value.bool false)), type := 4, pos := "law.go:96", after := #[{ on := 15, ground := Ground.data }, { on := 16, ground := Ground.data }], guard := none }) (v := ?_) rfl (by kernel_rfl) (by kernel_rfl) (by kernel_rfl) (fun _ _ _ h => h) (Or.inl ⟨by rfl, ?_⟩) (by assumption) ?_
                  rotate_left
                  · (intro w hSw; (try dsimp only at hSw); go_simp; first | done | with_reducible rfl)
                  try simp only [Act.put, List.setIfInBounds_toArray, List.set_cons_zero, List.set_cons_succ]
                  refine wpAnyH_take (i := 18) (oi := { dst := some 6, op := Op.assign (Operand.tmp 200), type := 4, pos := "law.go:96", after := #[{ on := 17, ground := Ground.data }, { on := 15, ground := Ground.chain }, { on := 0, ground := Ground.phase }, { on := 1, ground := Ground.phase }, { on := 2, ground := Ground.phase }, { on := 3, ground := Ground.phase }, { on := 4, ground := Ground.phase }, { on := 5, ground := Ground.phase }, { on := 6, ground := Ground.phase }, { on := 7, ground := Ground.phase }, { on := 8, ground := Ground.phase }, { on := 9, ground := Ground.phase }, { on := 10, ground := Ground.phase }, { on := 11, ground := Ground.phase }, { on := 12, ground := Ground.phase }, { on := 13, ground := Ground.phase }, { on := 14, ground := Ground.phase }, { on := 15, ground := Ground.phase }, { on := 16, ground := Ground.phase }, { on := 17, ground := Ground.phase }], guard := none }) (v := ?_) rfl (by kernel_rfl) (by kernel_rfl) (by kernel_rfl) (fun _ _ _ h => h) (Or.inl ⟨by rfl, ?_⟩) (by assumption) ?_
                  rotate_left
                  · (intro w hSw; (try dsimp only at hSw); go_simp; first | done | with_reducible rfl)
                  try simp only [Act.put, List.setIfInBounds_toArray, List.set_cons_zero, List.set_cons_succ]
                  refine wpAnyH_done (by kernel_rfl) ?_ _
                  have hF : Below W.heap.size W _ := keepc1 (by assumption)
                  go_wp2_with fail
                  go_ret
                  exact ⟨rfl, hF⟩
                · clear Hhs Hhr
                  have lr := World.block_lt_of_cell? _ _ r0
                  go_wp2_with fail
                  have hB2 := hB.alloc hB.size (Obj.cells #[Value.bool false, Value.int IntKind.u64 (U a)] 24)
                  have z0 : (World.alloc x27 (Obj.cells #[Value.bool false, Value.int IntKind.u64 (U a)] 24)).cell? ⟨x27.heap.size, 0, none⟩ = some (.bool false) := by simp
                  have z1 : (World.alloc x27 (Obj.cells #[Value.bool false, Value.int IntKind.u64 (U a)] 24)).cell? ⟨x27.heap.size, 1, none⟩ = some (.int .u64 (U a)) := by simp
                  generalize hQ : World.alloc x27 (Obj.cells #[Value.bool false, Value.int IntKind.u64 (U a)] 24) = Q at hB2 z0 z1 ⊢
                  clear hQ
                  go_region_held3 (fun w' => Below W.heap.size W w' ∧ w'.cell? ⟨x27.heap.size, 0, none⟩ = some (.bool false) ∧ w'.cell? ⟨x27.heap.size, 1, none⟩ = some (.int .u64 (U a)))
                    (first
                      | exact keepc2 (by assumption) hb
                      | exact keepc2 ⟨hB2, z0, z1⟩ (Below.refl _ _).drew)
                    (first
                      | (go_at_call 18; refine (int_U a _).mono ?_; rintro e xa ⟨rfl, hb⟩))
                  have hF : Below W.heap.size W _ := keepc1 (by assumption)
                  go_wp2_with fail
                  go_ret
                  exact ⟨rfl, hF⟩
                · clear Hhs Hhr
                  have lr := World.block_lt_of_cell? _ _ r0
                  go_wp2_with fail
                  have hB2 := hB.alloc hB.size (Obj.cells #[Value.bool false, Value.int IntKind.u64 (U a)] 24)
                  have z0 : (World.alloc x27 (Obj.cells #[Value.bool false, Value.int IntKind.u64 (U a)] 24)).cell? ⟨x27.heap.size, 0, none⟩ = some (.bool false) := by simp
                  have z1 : (World.alloc x27 (Obj.cells #[Value.bool false, Value.int IntKind.u64 (U a)] 24)).cell? ⟨x27.heap.size, 1, none⟩ = some (.int .u64 (U a)) := by simp
                  generalize hQ : World.alloc x27 (Obj.cells #[Value.bool false, Value.int IntKind.u64 (U a)] 24) = Q at hB2 z0 z1 ⊢
                  clear hQ
                  go_region_held3 (fun w' => Below W.heap.size W w' ∧ w'.cell? ⟨x27.heap.size, 0, none⟩ = some (.bool false) ∧ w'.cell? ⟨x27.heap.size, 1, none⟩ = some (.int .u64 (U a)))
                    (first
                      | exact keepc2 (by assumption) hb
                      | exact keepc2 ⟨hB2, z0, z1⟩ (Below.refl _ _).drew)
                    (first
                      | (go_at_call 18; refine (int_U a _).mono ?_; rintro e xa ⟨rfl, hb⟩))
                  have hF : Below W.heap.size W _ := keepc1 (by assumption)
                  go_wp2_with fail
                  go_ret
                  exact ⟨rfl, hF⟩
              · rcases Hhr.out with e1 | ⟨e1, e2, e3⟩ | ⟨e1, e2, e3⟩
                · clear Hhs Hhr
                  have lr := World.block_lt_of_cell? _ _ r0
                  go_wp2_with fail
                  have hB2 := hB.alloc hB.size (Obj.cells #[Value.bool false, Value.int IntKind.u64 (U a)] 24)
                  have z0 : (World.alloc x27 (Obj.cells #[Value.bool false, Value.int IntKind.u64 (U a)] 24)).cell? ⟨x27.heap.size, 0, none⟩ = some (.bool false) := by simp
                  have z1 : (World.alloc x27 (Obj.cells #[Value.bool false, Value.int IntKind.u64 (U a)] 24)).cell? ⟨x27.heap.size, 1, none⟩ = some (.int .u64 (U a)) := by simp
                  generalize hQ : World.alloc x27 (Obj.cells #[Value.bool false, Value.int IntKind.u64 (U a)] 24) = Q at hB2 z0 z1 ⊢
                  clear hQ
                  refine wp_region_held_drew (S := (fun w' => Below W.heap.size W w' ∧ w'.cell? ⟨x27.heap.size, 0, none⟩ = some (.bool false) ∧ w'.cell? ⟨x27.heap.size, 1, none⟩ = some (.int .u64 (U a)))) (by kernel_rfl) (keepc2 ⟨hB2, z0, z1⟩ (Below.refl _ _).drew) (fun hHeld => ?_)
                  refine wpAnyH_take (i := 0) (oi := { dst := some 183, op := Op.load 24 (Operand.tmp 29), type := 24, pos := "law.go:96", after := #[], guard := none }) (v := ?_) rfl (by kernel_rfl) (by kernel_rfl) (by kernel_rfl) (fun _ _ _ h => h) (Or.inl ⟨by rfl, ?_⟩) (by assumption) ?_
                  rotate_left
                  · (intro w hSw; (try dsimp only at hSw); go_simp; first | done | with_reducible rfl)
                  try simp only [Act.put, List.setIfInBounds_toArray, List.set_cons_zero, List.set_cons_succ]
                  refine wpAnyH_take (i := 1) (oi := { dst := some 184, op := Op.move (Operand.tmp 0), type := 2, pos := "law.go:96", after := #[], guard := none }) (v := ?_) rfl (by kernel_rfl) (by kernel_rfl) (by kernel_rfl) (fun _ _ _ h => h) (Or.inl ⟨by rfl, ?_⟩) (by assumption) ?_
                  rotate_left
                  · (intro w hSw; (try dsimp only at hSw); go_simp; first | done | with_reducible rfl)
                  try simp only [Act.put, List.setIfInBounds_toArray, List.set_cons_zero, List.set_cons_succ]
                  refine wpAnyH_ready (rs := [2]) (by kernel_rfl) (by simp) ?_
                  refine AllReadyH.cons (o := { dst := some 185, op := Op.call { callee := Callee.value (Operand.func 18), args := #[Operand.tmp 184], argTypes := #[2] }, type := 24, pos := "law.go:96", after := #[{ on := 1, ground := Ground.data }], guard := none }) rfl (fun K hK => ?_) AllReadyH.nil
                  go_simp
                  go_at_call 18; refine (int_U a _).mono ?_; rintro e xa ⟨rfl, hb⟩
                  go_wp2_with fail
                  refine hK.out _ _ (keepc2 hHeld hb) (fun hHeld2 => ?_)
                  clear hK K hHeld hb
                  try simp only [Act.put, List.setIfInBounds_toArray, List.set_cons_zero, List.set_cons_succ]
                  refine wpAnyH_take (i := 3) (oi := { dst := some 186, op := Op.binOp BinOp.eql 24 (Operand.tmp 183) (Operand.tmp 185) 24, type := 4, pos := "law.go:96", after := #[{ on := 0, ground := Ground.data }, { on := 2, ground := Ground.data }], guard := none }) (v := ?_) rfl (by kernel_rfl) (by kernel_rfl) (by kernel_rfl) (fun _ _ _ h => h) (Or.inl ⟨by rfl, ?_⟩) (by assumption) ?_
                  rotate_left
                  · (intro w hSw; (try dsimp only at hSw); go_simp; first | done | with_reducible rfl)
                  try simp only [Act.put, List.setIfInBounds_toArray, List.set_cons_zero, List.set_cons_succ]
                  refine wpAnyH_take (i := 4) (oi := { dst := some 187, op := Op.move (Operand.tmp 186), type := 4, pos := "law.go:96", after := #[{ on := 3, ground := Ground.data }, { on := 2, ground := Ground.chain }], guard := none }) (v := ?_) rfl (by kernel_rfl) (by kernel_rfl) (by kernel_rfl) (fun _ _ _ h => h) (Or.inl ⟨by rfl, ?_⟩) (by assumption) ?_
                  rotate_left
                  · (intro w hSw; (try dsimp only at hSw); go_simp; first | done | with_reducible rfl)
                  try simp only [Act.put, List.setIfInBounds_toArray, List.set_cons_zero, List.set_cons_succ]
                  refine wpAnyH_take (i := 5) (oi := { dst := some 188, op := Op.move (Operand.tmp 31), type := 2, pos := "law.go:96", after := #[{ on := 4, ground := Ground.guard }], guard := some (4, true) }) (v := ?_) rfl (by kernel_rfl) (by kernel_rfl) (by kernel_rfl) (fun _ _ _ h => h) (Or.inl ⟨by rfl, ?_⟩) (by assumption) ?_
                  rotate_left
                  · (intro w hSw; (try dsimp only at hSw); go_simp; first | done | with_reducible rfl)
                  try simp only [Act.put, List.setIfInBounds_toArray, List.set_cons_zero, List.set_cons_succ]
                  refine wpAnyH_take (i := 6) (oi := { dst := some 189, op := Op.binOp BinOp.eql 2 (Operand.tmp 188) (Operand.const (Value.int IntKind.i64 0)) 2, type := 4, pos := "law.go:96", after := #[{ on := 5, ground := Ground.data }, { on := 4, ground := Ground.guard }], guard := some (4, true) }) (v := ?_) rfl (by kernel_rfl) (by kernel_rfl) (by kernel_rfl) (fun _ _ _ h => h) (Or.inl ⟨by rfl, ?_⟩) (by assumption) ?_
                  rotate_left
                  · (intro w hSw; (try dsimp only at hSw); go_simp; first | done | with_reducible rfl)
                  try simp only [Act.put, List.setIfInBounds_toArray, List.set_cons_zero, List.set_cons_succ]
                  refine wpAnyH_take (i := 7) (oi := { dst := some 190, op := Op.move (Operand.tmp 189), type := 4, pos := "law.go:96", after := #[{ on := 6, ground := Ground.data }, { on := 4, ground := Ground.chain }, { on := 4, ground := Ground.guard }], guard := some (4, true) }) (v := ?_) rfl (by kernel_rfl) (by kernel_rfl) (by kernel_rfl) (fun _ _ _ h => h) (Or.inl ⟨by rfl, ?_⟩) (by assumption) ?_
                  rotate_left
                  · (intro w hSw; (try dsimp only at hSw); go_simp; first | done | with_reducible rfl)
                  try simp only [Act.put, List.setIfInBounds_toArray, List.set_cons_zero, List.set_cons_succ]
                  refine wpAnyH_take (i := 8) (oi := { dst := some 191, op := Op.move (Operand.tmp 31), type := 2, pos := "law.go:96", after := #[{ on := 7, ground := Ground.guard }], guard := some (7, false) }) (v := undef) rfl (by kernel_rfl) (by kernel_rfl) (by kernel_rfl) (fun _ _ _ h => h) (Or.inr ⟨by rfl, rfl⟩) (by assumption) ?_
                  try simp only [Act.put, List.setIfInBounds_toArray, List.set_cons_zero, List.set_cons_succ]
                  refine wpAnyH_take (i := 9) (oi := { dst := some 192, op := Op.binOp BinOp.lss 2 (Operand.tmp 191) (Operand.const (Value.int IntKind.i64 0)) 2, type := 4, pos := "law.go:96", after := #[{ on := 8, ground := Ground.data }, { on := 7, ground := Ground.guard }], guard := some (7, false) }) (v := undef) rfl (by kernel_rfl) (by kernel_rfl) (by kernel_rfl) (fun _ _ _ h => h) (Or.inr ⟨by rfl, rfl⟩) (by assumption) ?_
                  try simp only [Act.put, List.setIfInBounds_toArray, List.set_cons_zero, List.set_cons_succ]
                  refine wpAnyH_take (i := 10) (oi := { dst := some 193, op := Op.move (Operand.tmp 0), type := 2, pos := "law.go:96", after := #[{ on := 7, ground := Ground.guard }], guard := some (7, false) }) (v := undef) rfl (by kernel_rfl) (by kernel_rfl) (by kernel_rfl) (fun _ _ _ h => h) (Or.inr ⟨by rfl, rfl⟩) (by assumption) ?_
                  try simp only [Act.put, List.setIfInBounds_toArray, List.set_cons_zero, List.set_cons_succ]
                  refine wpAnyH_take (i := 11) (oi := { dst := some 194, op := Op.binOp BinOp.lss 2 (Operand.tmp 193) (Operand.const (Value.int IntKind.i64 0)) 2, type := 4, pos := "law.go:96", after := #[{ on := 10, ground := Ground.data }, { on := 7, ground := Ground.guard }], guard := some (7, false) }) (v := undef) rfl (by kernel_rfl) (by kernel_rfl) (by kernel_rfl) (fun _ _ _ h => h) (Or.inr ⟨by rfl, rfl⟩) (by assumption) ?_
                  try simp only [Act.put, List.setIfInBounds_toArray, List.set_cons_zero, List.set_cons_succ]
                  refine wpAnyH_take (i := 12) (oi := { dst := some 195, op := Op.binOp BinOp.eql 4 (Operand.tmp 192) (Operand.tmp 194) 4, type := 4, pos := "law.go:96", after := #[{ on := 9, ground := Ground.data }, { on := 11, ground := Ground.data }, { on := 7, ground := Ground.guard }], guard := some (7, false) }) (v := undef) rfl (by kernel_rfl) (by kernel_rfl) (by kernel_rfl) (fun _ _ _ h => h) (Or.inr ⟨by rfl, rfl⟩) (by assumption) ?_
                  try simp only [Act.put, List.setIfInBounds_toArray, List.set_cons_zero, List.set_cons_succ]
                  refine wpAnyH_take (i := 13) (oi := { dst := some 196, op := Op.pick (Operand.tmp 190) (Operand.const (Value.bool true)) (Operand.tmp 195), type := 4, pos := "law.go:96", after := #[{ on := 7, ground := Ground.data }, { on := 12, ground := Ground.data }, { on := 4, ground := Ground.guard }], guard := some (4, true) }) (v := ?_) rfl (by kernel_rfl) (by kernel_rfl) (by kernel_rfl) (fun _ _ _ h => h) (Or.inl ⟨by rfl, ?_⟩) (by assumption) ?_
                  rotate_left
                  · (intro w hSw; (try dsimp only at hSw); go_simp; first | done | with_reducible rfl)
                  try simp only [Act.put, List.setIfInBounds_toArray, List.set_cons_zero, List.set_cons_succ]
                  refine wpAnyH_take (i := 14) (oi := { dst := some 197, op := Op.pick (Operand.tmp 187) (Operand.tmp 196) (Operand.const (Value.bool false)), type := 4, pos := "law.go:96", after := #[{ on := 4, ground := Ground.data }, { on := 13, ground := Ground.data }], guard := none }) (v := ?_) rfl (by kernel_rfl) (by kernel_rfl) (by kernel_rfl) (fun _ _ _ h => h) (Or.inl ⟨by rfl, ?_⟩) (by assumption) ?_
                  rotate_left
                  · (intro w hSw; (try dsimp only at hSw); go_simp; first | done | with_reducible rfl)
                  try simp only [Act.put, List.setIfInBounds_toArray, List.set_cons_zero, List.set_cons_succ]
                  refine wpAnyH_take (i := 15) (oi := { dst := some 198, op := Op.move (Operand.tmp 197), type := 4, pos := "law.go:96", after := #[{ on := 14, ground := Ground.data }, { on := 7, ground := Ground.chain }], guard := none }) (v := ?_) rfl (by kernel_rfl) (by kernel_rfl) (by kernel_rfl) (fun _ _ _ h => h) (Or.inl ⟨by rfl, ?_⟩) (by assumption) ?_
                  rotate_left
                  · (intro w hSw; (try dsimp only at hSw); go_simp; first | done | with_reducible rfl)
                  try simp only [Act.put, List.setIfInBounds_toArray, List.set_cons_zero, List.set_cons_succ]
                  refine wpAnyH_take (i := 16) (oi := { dst := some 199, op := Op.move (Operand.tmp 32), type := 4, pos := "law.go:96", after := #[{ on := 15, ground := Ground.guard }], guard := some (15, true) }) (v := ?_) rfl (by kernel_rfl) (by kernel_rfl) (by kernel_rfl) (fun _ _ _ h => h) (Or.inl ⟨by rfl, ?_⟩) (by assumption) ?_
                  rotate_left
                  · (intro w hSw; (try dsimp only at hSw); go_simp; first | done | with_reducible rfl)
                  try simp only [Act.put, List.setIfInBounds_toArray, List.set_cons_zero, List.set_cons_succ]
                  refine wpAnyH_take (i := 17) (oi := { dst := some 200, op := Op.pick (Operand.tmp 198) (Operand.tmp 199) (Operand.const (Value.bool false)), type := 4, pos := "law.go:96", after := #[{ on := 15, ground := Ground.data }, { on := 16, ground := Ground.data }], guard := none }) (v := ?_) rfl (by kernel_rfl) (by kernel_rfl) (by kernel_rfl) (fun _ _ _ h => h) (Or.inl ⟨by rfl, ?_⟩) (by assumption) ?_
                  rotate_left
                  · (intro w hSw; (try dsimp only at hSw); go_simp; first | done | with_reducible rfl)
                  try simp only [Act.put, List.setIfInBounds_toArray, List.set_cons_zero, List.set_cons_succ]
                  refine wpAnyH_take (i := 18) (oi := { dst := some 6, op := Op.assign (Operand.tmp 200), type := 4, pos := "law.go:96", after := #[{ on := 17, ground := Ground.data }, { on := 15, ground := Ground.chain }, { on := 0, ground := Ground.phase }, { on := 1, ground := Ground.phase }, { on := 2, ground := Ground.phase }, { on := 3, ground := Ground.phase }, { on := 4, ground := Ground.phase }, { on := 5, ground := Ground.phase }, { on := 6, ground := Ground.phase }, { on := 7, ground := Ground.phase }, { on := 8, ground := Ground.phase }, { on := 9, ground := Ground.phase }, { on := 10, ground := Ground.phase }, { on := 11, ground := Ground.phase }, { on := 12, ground := Ground.phase }, { on := 13, ground := Ground.phase }, { on := 14, ground := Ground.phase }, { on := 15, ground := Ground.phase }, { on := 16, ground := Ground.phase }, { on := 17, ground := Ground.phase }], guard := none }) (v := ?_) rfl (by kernel_rfl) (by kernel_rfl) (by kernel_rfl) (fun _ _ _ h => h) (Or.inl ⟨by rfl, ?_⟩) (by assumption) ?_
                  rotate_left
                  · (intro w hSw; (try dsimp only at hSw); go_simp; first | done | with_reducible rfl)
                  try simp only [Act.put, List.setIfInBounds_toArray, List.set_cons_zero, List.set_cons_succ]
                  refine wpAnyH_done (by kernel_rfl) ?_ _
                  have hF : Below W.heap.size W _ := keepc1 (by assumption)
                  go_wp2_with fail
                  go_ret
                  exact ⟨rfl, hF⟩
                · clear Hhs Hhr
                  have lr := World.block_lt_of_cell? _ _ r0
                  go_wp2_with fail
                  have hB2 := hB.alloc hB.size (Obj.cells #[Value.bool false, Value.int IntKind.u64 (U a)] 24)
                  have z0 : (World.alloc x27 (Obj.cells #[Value.bool false, Value.int IntKind.u64 (U a)] 24)).cell? ⟨x27.heap.size, 0, none⟩ = some (.bool false) := by simp
                  have z1 : (World.alloc x27 (Obj.cells #[Value.bool false, Value.int IntKind.u64 (U a)] 24)).cell? ⟨x27.heap.size, 1, none⟩ = some (.int .u64 (U a)) := by simp
                  generalize hQ : World.alloc x27 (Obj.cells #[Value.bool false, Value.int IntKind.u64 (U a)] 24) = Q at hB2 z0 z1 ⊢
                  clear hQ
                  go_region_held3 (fun w' => Below W.heap.size W w' ∧ w'.cell? ⟨x27.heap.size, 0, none⟩ = some (.bool false) ∧ w'.cell? ⟨x27.heap.size, 1, none⟩ = some (.int .u64 (U a)))
                    (first
                      | exact keepc2 (by assumption) hb
                      | exact keepc2 ⟨hB2, z0, z1⟩ (Below.refl _ _).drew)
                    (first
                      | (go_at_call 18; refine (int_U a _).mono ?_; rintro e xa ⟨rfl, hb⟩))
                  have hF : Below W.heap.size W _ := keepc1 (by assumption)
                  go_wp2_with fail
                  go_ret
                  exact ⟨rfl, hF⟩
                · clear Hhs Hhr
                  have lr := World.block_lt_of_cell? _ _ r0
                  go_wp2_with fail
                  have hB2 := hB.alloc hB.size (Obj.cells #[Value.bool false, Value.int IntKind.u64 (U a)] 24)
                  have z0 : (World.alloc x27 (Obj.cells #[Value.bool false, Value.int IntKind.u64 (U a)] 24)).cell? ⟨x27.heap.size, 0, none⟩ = some (.bool false) := by simp
                  have z1 : (World.alloc x27 (Obj.cells #[Value.bool false, Value.int IntKind.u64 (U a)] 24)).cell? ⟨x27.heap.size, 1, none⟩ = some (.int .u64 (U a)) := by simp
                  generalize hQ : World.alloc x27 (Obj.cells #[Value.bool false, Value.int IntKind.u64 (U a)] 24) = Q at hB2 z0 z1 ⊢
                  clear hQ
                  go_region_held3 (fun w' => Below W.heap.size W w' ∧ w'.cell? ⟨x27.heap.size, 0, none⟩ = some (.bool false) ∧ w'.cell? ⟨x27.heap.size, 1, none⟩ = some (.int .u64 (U a)))
                    (first
                      | exact keepc2 (by assumption) hb
                      | exact keepc2 ⟨hB2, z0, z1⟩ (Below.refl _ _).drew)
                    (first
                      | (go_at_call 18; refine (int_U a _).mono ?_; rintro e xa ⟨rfl, hb⟩))
                  have hF : Below W.heap.size W _ := keepc1 (by assumption)
                  go_wp2_with fail
                  go_ret
                  exact ⟨rfl, hF⟩

end Go.Proofs.YtkipioojdlkbcaaDoor.numRings
