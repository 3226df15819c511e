/- NumRings: the walk where the quotient is refused. -/
import Derived.Test.YtkipioojdlkbcaaDoorRingsA
import Derived.Deep.RegionHeld3
import Derived.Deep.DeepCutAuto
namespace Go.Proofs.YtkipioojdlkbcaaDoor.numRings
open Go.RowKit

theorem box_stored {w x : World} {n : Nat} {u v u0 v0 : Value} (h : Below w.heap.size w x) (hn : w.heap.size ≤ n) (c0 : x.cell? ⟨n, 0, none⟩ = some u0) (c1 : x.cell? ⟨n, 1, none⟩ = some v0) :
    Below w.heap.size w ((x.setCell ⟨n, 0, none⟩ u).setCell ⟨n, 1, none⟩ v) ∧ ((x.setCell ⟨n, 0, none⟩ u).setCell ⟨n, 1, none⟩ v).cell? ⟨n, 0, none⟩ = some u ∧ ((x.setCell ⟨n, 0, none⟩ u).setCell ⟨n, 1, none⟩ v).cell? ⟨n, 1, none⟩ = some v := by
  refine ⟨(h.setCell (by simpa using hn) _).setCell (by simpa using hn) _, ?_, ?_⟩
  · rw [World.cell?_setCell_other (h := by simp)]; exact World.cell?_setCell_same _ _ _ c0
  · exact World.cell?_setCell_same _ _ _ (u := v0) (by rw [World.cell?_setCell_other (h := by simp)]; exact c1)

theorem keepc6 {W w w' : World} {a0 a1 a2 a3 a4 a5 : Addr} {v0 v1 v2 v3 v4 v5 : Value} (h : Below W.heap.size W w ∧ w.cell? a0 = some v0 ∧ w.cell? a1 = some v1 ∧ w.cell? a2 = some v2 ∧ w.cell? a3 = some v3 ∧ w.cell? a4 = some v4 ∧ w.cell? a5 = some v5) (hb : Below w.heap.size w w') :
    Below W.heap.size W w' ∧ w'.cell? a0 = some v0 ∧ w'.cell? a1 = some v1 ∧ w'.cell? a2 = some v2 ∧ w'.cell? a3 = some v3 ∧ w'.cell? a4 = some v4 ∧ w'.cell? a5 = some v5 :=
  ⟨stepB h.1 hb, cell_later hb h.2.1, cell_later hb h.2.2.1, cell_later hb h.2.2.2.1, cell_later hb h.2.2.2.2.1, cell_later hb h.2.2.2.2.2.1, cell_later hb h.2.2.2.2.2.2⟩

theorem keepc8 {W w w' : World} {a0 a1 a2 a3 a4 a5 a6 a7 : Addr} {v0 v1 v2 v3 v4 v5 v6 v7 : Value} (h : Below W.heap.size W w ∧ w.cell? a0 = some v0 ∧ w.cell? a1 = some v1 ∧ w.cell? a2 = some v2 ∧ w.cell? a3 = some v3 ∧ w.cell? a4 = some v4 ∧ w.cell? a5 = some v5 ∧ w.cell? a6 = some v6 ∧ w.cell? a7 = some v7) (hb : Below w.heap.size w w') :
    Below W.heap.size W w' ∧ w'.cell? a0 = some v0 ∧ w'.cell? a1 = some v1 ∧ w'.cell? a2 = some v2 ∧ w'.cell? a3 = some v3 ∧ w'.cell? a4 = some v4 ∧ w'.cell? a5 = some v5 ∧ w'.cell? a6 = some v6 ∧ w'.cell? a7 = some v7 :=
  ⟨stepB h.1 hb, cell_later hb h.2.1, cell_later hb h.2.2.1, cell_later hb h.2.2.2.1, cell_later hb h.2.2.2.2.1, cell_later hb h.2.2.2.2.2.1, cell_later hb h.2.2.2.2.2.2.1, cell_later hb h.2.2.2.2.2.2.2.1, cell_later hb h.2.2.2.2.2.2.2.2⟩

theorem keepc10 {W w w' : World} {a0 a1 a2 a3 a4 a5 a6 a7 a8 a9 : Addr} {v0 v1 v2 v3 v4 v5 v6 v7 v8 v9 : Value} (h : Below W.heap.size W w ∧ w.cell? a0 = some v0 ∧ w.cell? a1 = some v1 ∧ w.cell? a2 = some v2 ∧ w.cell? a3 = some v3 ∧ w.cell? a4 = some v4 ∧ w.cell? a5 = some v5 ∧ w.cell? a6 = some v6 ∧ w.cell? a7 = some v7 ∧ w.cell? a8 = some v8 ∧ w.cell? a9 = some v9) (hb : Below w.heap.size w w') :
    Below W.heap.size W w' ∧ w'.cell? a0 = some v0 ∧ w'.cell? a1 = some v1 ∧ w'.cell? a2 = some v2 ∧ w'.cell? a3 = some v3 ∧ w'.cell? a4 = some v4 ∧ w'.cell? a5 = some v5 ∧ w'.cell? a6 = some v6 ∧ w'.cell? a7 = some v7 ∧ w'.cell? a8 = some v8 ∧ w'.cell? a9 = some v9 :=
  ⟨stepB h.1 hb, cell_later hb h.2.1, cell_later hb h.2.2.1, cell_later hb h.2.2.2.1, cell_later hb h.2.2.2.2.1, cell_later hb h.2.2.2.2.2.1, cell_later hb h.2.2.2.2.2.2.1, cell_later hb h.2.2.2.2.2.2.2.1, cell_later hb h.2.2.2.2.2.2.2.2.1, cell_later hb h.2.2.2.2.2.2.2.2.2.1, cell_later hb h.2.2.2.2.2.2.2.2.2.2⟩

set_option maxRecDepth 100000 in
set_option maxHeartbeats 8000000 in
theorem walk_bad (a b c : Int) (W : World) (ha : InR a) (hb : InR b) (hc : InR c) (d : Int) (hd : d ≠ 0) (hbad : b = 0 ∨ (a = -9223372036854775808 ∧ b = -1)) (cdiv : (∀ w, Calls Tryd.prog 12 #[.int .i64 3, .agg #[.bool false, .int .u64 (U a)], .agg #[.bool false, .int .u64 (U b)]] w fun e w' => e = .returned (.tuple #[.agg #[.bool false, .int .u64 0], .int .i64 d]) ∧ Below w.heap.size w w')) (crem : (∀ w, Calls Tryd.prog 12 #[.int .i64 4, .agg #[.bool false, .int .u64 (U a)], .agg #[.bool false, .int .u64 (U b)]] w fun e w' => e = .returned (.tuple #[.agg #[.bool false, .int .u64 0], .int .i64 d]) ∧ Below w.heap.size w w')) (hE : Env W) :
    Calls Tryd.prog 5 #[.int .i64 a, .int .i64 b, .int .i64 c] W fun e W' => e = .returned (.bool true) ∧ Below W.heap.size W W' := by
  have hB := Below.refl W.heap.size W
  have hA := Lib.hid (awake_any W hE)
  clear hE
  have Hha := Lib.hid ha
  clear ha
  have Hhb := Lib.hid hb
  clear hb
  have Hhc := Lib.hid hc
  clear hc
  have Hhd := Lib.hid hd
  clear hd
  have Hhbad := Lib.hid hbad
  clear hbad
  have Hcdiv := Lib.hid cdiv
  clear cdiv
  have Hcrem := Lib.hid crem
  clear crem
  go_enter Tryd.func5, Tryd.ntmps5
  go_wp2_with fail
  refine (hA.out).mono ?_
  rintro e x1 ⟨rfl, hb⟩
  replace hB := stepB hB hb
  clear hb
  go_wp2_with fail
  have hI : DoI W x1.heap.size (U (wrap64 (a + b))) (U (wrap64 (a - b))) (U (wrap64 (a * b))) 0 (x1.alloc (Obj.cells (#[.bool false, .int .u64 0, .bool false, .int .u64 0, .bool false, .int .u64 0, .bool false, .int .u64 0, .bool false, .int .u64 0] : Array Value) 39)) := by
    refine ⟨hB.alloc hB.size _, hB.size, by simp, fun j hj => ?_⟩
    have e : j = 0 ∨ j = 1 ∨ j = 2 := by omega
    rcases e with rfl | rfl | rfl <;> exact ⟨by rw [World.cell?_alloc_new]; rfl, by rw [World.cell?_alloc_new]; rfl, by rw [World.frozen?_alloc_new], by rw [World.frozen?_alloc_new]⟩
  clear hB
  generalize hX : x1.heap.size = X at *
  clear hX
  go_loopw [8] (fun vo wr => ∃ k : Nat, k ≤ 3 ∧ vo = .int .i64 k ∧ DoI W X (U (wrap64 (a + b))) (U (wrap64 (a - b))) (U (wrap64 (a * b))) k wr) (fun vo _ => 3 - (intOf vo).toNat)
  case atStart => exact ⟨0, by omega, rfl, hI⟩
  case round =>
    obtain ⟨k, hk, rfl, hD⟩ := hrel
    clear hI
    rename World => Y0
    have hk4 : k = 0 ∨ k = 1 ∨ k = 2 ∨ k = 3 := by omega
    clear hk
    rcases hk4 with rfl | rfl | rfl | rfl
    · go_wp2_with fail
      refine (int_U a _).mono ?_
      rintro e z1 ⟨rfl, hb⟩
      replace hD := hD.below hb
      clear hb
      go_wp2_with fail
      refine (int_U b _).mono ?_
      rintro e z2 ⟨rfl, hb⟩
      replace hD := hD.below hb
      clear hb
      go_wp2_with fail
      refine (calc_add' a b _ Hha.out Hhb.out).mono ?_
      rintro e z3 ⟨rfl, hb⟩
      replace hD := hD.below hb
      clear hb
      have lX : X < z3.heap.size := hD.2.2.1
      have q0 : z3.cell? ⟨X, 0, none⟩ = some (.bool false) := (hD.2.2.2 0 (by decide)).1
      have q1 : z3.cell? ⟨X, 1, none⟩ = some (.int .u64 0) := (hD.2.2.2 0 (by decide)).2.1
      have q2 : z3.frozen? ⟨X, 0, none⟩ = false := (hD.2.2.2 0 (by decide)).2.2.1
      have q3 : z3.frozen? ⟨X, 1, none⟩ = false := (hD.2.2.2 0 (by decide)).2.2.2
      go_wp2
      exact ⟨⟨1, by omega, rfl, (DoI.store hD (by decide)).below ((Below.refl _ _).alloc (Nat.le_refl _) _)⟩, by simp [intOf]⟩
    · go_wp2_with fail
      refine (int_U a _).mono ?_
      rintro e z1 ⟨rfl, hb⟩
      replace hD := hD.below hb
      clear hb
      go_wp2_with fail
      refine (int_U b _).mono ?_
      rintro e z2 ⟨rfl, hb⟩
      replace hD := hD.below hb
      clear hb
      go_wp2_with fail
      refine (calc_sub' a b _ Hha.out Hhb.out).mono ?_
      rintro e z3 ⟨rfl, hb⟩
      replace hD := hD.below hb
      clear hb
      have lX : X < z3.heap.size := hD.2.2.1
      have q0 : z3.cell? ⟨X, 2, none⟩ = some (.bool false) := (hD.2.2.2 1 (by decide)).1
      have q1 : z3.cell? ⟨X, 3, none⟩ = some (.int .u64 0) := (hD.2.2.2 1 (by decide)).2.1
      have q2 : z3.frozen? ⟨X, 2, none⟩ = false := (hD.2.2.2 1 (by decide)).2.2.1
      have q3 : z3.frozen? ⟨X, 3, none⟩ = false := (hD.2.2.2 1 (by decide)).2.2.2
      go_wp2
      exact ⟨⟨2, by omega, rfl, (DoI.store hD (by decide)).below ((Below.refl _ _).alloc (Nat.le_refl _) _)⟩, by simp [intOf]⟩
    · go_wp2_with fail
      refine (int_U a _).mono ?_
      rintro e z1 ⟨rfl, hb⟩
      replace hD := hD.below hb
      clear hb
      go_wp2_with fail
      refine (int_U b _).mono ?_
      rintro e z2 ⟨rfl, hb⟩
      replace hD := hD.below hb
      clear hb
      go_wp2_with fail
      refine (calc_mul' a b _ Hha.out Hhb.out).mono ?_
      rintro e z3 ⟨rfl, hb⟩
      replace hD := hD.below hb
      clear hb
      have lX : X < z3.heap.size := hD.2.2.1
      have q0 : z3.cell? ⟨X, 4, none⟩ = some (.bool false) := (hD.2.2.2 2 (by decide)).1
      have q1 : z3.cell? ⟨X, 5, none⟩ = some (.int .u64 0) := (hD.2.2.2 2 (by decide)).2.1
      have q2 : z3.frozen? ⟨X, 4, none⟩ = false := (hD.2.2.2 2 (by decide)).2.2.1
      have q3 : z3.frozen? ⟨X, 5, none⟩ = false := (hD.2.2.2 2 (by decide)).2.2.2
      go_wp2
      exact ⟨⟨3, by omega, rfl, (DoI.store hD (by decide)).below ((Below.refl _ _).alloc (Nat.le_refl _) _)⟩, by simp [intOf]⟩
    · have hB := hD.1
      have d0 : Y0.cell? ⟨X, 0, none⟩ = some (.bool false) := (hD.2.2.2 0 (by decide)).1
      have d1 : Y0.cell? ⟨X, 1, none⟩ = some (.int .u64 (U (wrap64 (a + b)))) := (hD.2.2.2 0 (by decide)).2.1
      have d2 : Y0.cell? ⟨X, 2, none⟩ = some (.bool false) := (hD.2.2.2 1 (by decide)).1
      have d3 : Y0.cell? ⟨X, 3, none⟩ = some (.int .u64 (U (wrap64 (a - b)))) := (hD.2.2.2 1 (by decide)).2.1
      have d4 : Y0.cell? ⟨X, 4, none⟩ = some (.bool false) := (hD.2.2.2 2 (by decide)).1
      have d5 : Y0.cell? ⟨X, 5, none⟩ = some (.int .u64 (U (wrap64 (a * b)))) := (hD.2.2.2 2 (by decide)).2.1
      clear hD
      go_upto_region 11 with (fail)
      have hY0 : Below Y0.heap.size Y0 Y0 := Below.refl _ _
      have ld : X < Y0.heap.size := World.block_lt_of_cell? _ _ d0
      go_cut [11, 12] from 54 (fun va vb wx => ∃ p, va = .pointer (some ⟨p, 0, none⟩) ∧ vb = .int .i64 0 ∧ Below Y0.heap.size Y0 wx ∧ wx.cell? ⟨p, 0, none⟩ = some (.bool false) ∧ wx.cell? ⟨p, 1, none⟩ = some (.int .u64 (U a)))
      case first =>
        go_region_with (first
          | (go_at_call 18; refine (int_U b _).mono ?_; rintro e xa ⟨rfl, hb⟩; first | (have hY := stepB hY0.drew hb; have d0a := cell_later hY d0; have d1a := cell_later hY d1; have d2a := cell_later hY d2; have d3a := cell_later hY d3; have d4a := cell_later hY d4; have d5a := cell_later hY d5; have lda : X < xa.heap.size := World.block_lt_of_cell? _ _ d0a; clear hb) | (have hY := stepB (hY0.drew.alloc hY0.drew.size _) hb; have d0a := cell_later hY d0; have d1a := cell_later hY d1; have d2a := cell_later hY d2; have d3a := cell_later hY d3; have d4a := cell_later hY d4; have d5a := cell_later hY d5; have lda : X < xa.heap.size := World.block_lt_of_cell? _ _ d0a; have n0 : xa.cell? ⟨Y0.heap.size, 0, none⟩ = some (.bool false) := cell_later hb (by simp; done); have n1 : xa.cell? ⟨Y0.heap.size, 1, none⟩ = some (.int .u64 0) := cell_later hb (by simp; done); have n2 : xa.frozen? ⟨Y0.heap.size, 0, none⟩ = false := (hb.frozen (by simp; done)).trans (by simp; done); have n3 : xa.frozen? ⟨Y0.heap.size, 1, none⟩ = false := (hb.frozen (by simp; done)).trans (by simp; done); clear hb))
          | (go_at_call 12; refine (c_back a b _ Hhb.out).mono ?_; rintro e xb ⟨rfl, hb⟩; first | (have hZ := stepB hY hb; have d0b := cell_later hZ d0; have d1b := cell_later hZ d1; have d2b := cell_later hZ d2; have d3b := cell_later hZ d3; have d4b := cell_later hZ d4; have d5b := cell_later hZ d5; first | (have n8 := cell_later hb n0; have n9 := cell_later hb n1; have nl := World.block_lt_of_cell? _ _ n0; have n10 := (hb.frozen (p := ⟨Y0.heap.size, 0, none⟩) nl).trans n2; have n11 := (hb.frozen (p := ⟨Y0.heap.size, 1, none⟩) nl).trans n3; clear hb) | clear hb) | (have hZ := stepB (hY.alloc hY.size _) hb; have d0b := cell_later hZ d0; have d1b := cell_later hZ d1; have d2b := cell_later hZ d2; have d3b := cell_later hZ d3; have d4b := cell_later hZ d4; have d5b := cell_later hZ d5; have n4 : xb.cell? ⟨xa.heap.size, 0, none⟩ = some (.bool false) := cell_later hb (by simp; done); have n5 : xb.cell? ⟨xa.heap.size, 1, none⟩ = some (.int .u64 0) := cell_later hb (by simp; done); have n6 : xb.frozen? ⟨xa.heap.size, 0, none⟩ = false := (hb.frozen (by simp; done)).trans (by simp; done); have n7 : xb.frozen? ⟨xa.heap.size, 1, none⟩ = false := (hb.frozen (by simp; done)).trans (by simp; done); clear hb)))
        all_goals
          go_wp2_with fail
          go_meet
          first
            | exact ⟨_, rfl, rfl, hZ.alloc hZ.size _, by simp; done, by simp; done⟩
            | exact ⟨_, rfl, rfl, box_stored hZ (Nat.le_refl _) n8 n9⟩
            | exact ⟨_, rfl, rfl, box_stored hZ hY.size n4 n5⟩
      case rest =>
        obtain ⟨pk, rfl, rfl, hc, k0, k1⟩ := hcut
        rename World => yk
        clear hY0 ld
        replace hB := stepB hB hc
        replace d0 := cell_later hc d0
        replace d1 := cell_later hc d1
        replace d2 := cell_later hc d2
        replace d3 := cell_later hc d3
        replace d4 := cell_later hc d4
        replace d5 := cell_later hc d5
        clear hc
        go_upto_region 12 with (fail)
        have hY0 : Below yk.heap.size yk yk := Below.refl _ _
        have ld : X < yk.heap.size := World.block_lt_of_cell? _ _ d0
        have lk : pk < yk.heap.size := World.block_lt_of_cell? _ _ k0
        go_cut [13, 14] from 62 (fun va vb wx => ∃ p, va = .pointer (some ⟨p, 0, none⟩) ∧ vb = .int .i64 0 ∧ Below yk.heap.size yk wx ∧ wx.cell? ⟨p, 0, none⟩ = some (.bool false) ∧ wx.cell? ⟨p, 1, none⟩ = some (.int .u64 (U ((a + b) * c))))
        case first =>
          go_region_with (first
            | (go_at_call 18; refine (int_U c _).mono ?_; rintro e xa ⟨rfl, hb⟩; first | (have hY := stepB hY0.drew hb; have d0a := cell_later hY d0; have d1a := cell_later hY d1; have d2a := cell_later hY d2; have d3a := cell_later hY d3; have d4a := cell_later hY d4; have d5a := cell_later hY d5; have k0a := cell_later hY k0; have k1a := cell_later hY k1; have lda : X < xa.heap.size := World.block_lt_of_cell? _ _ d0a; have lka : pk < xa.heap.size := World.block_lt_of_cell? _ _ k0a; clear hb) | (have hY := stepB (hY0.drew.alloc hY0.drew.size _) hb; have d0a := cell_later hY d0; have d1a := cell_later hY d1; have d2a := cell_later hY d2; have d3a := cell_later hY d3; have d4a := cell_later hY d4; have d5a := cell_later hY d5; have k0a := cell_later hY k0; have k1a := cell_later hY k1; have lda : X < xa.heap.size := World.block_lt_of_cell? _ _ d0a; have lka : pk < xa.heap.size := World.block_lt_of_cell? _ _ k0a; have n0 : xa.cell? ⟨yk.heap.size, 0, none⟩ = some (.bool false) := cell_later hb (by simp; done); have n1 : xa.cell? ⟨yk.heap.size, 1, none⟩ = some (.int .u64 0) := cell_later hb (by simp; done); have n2 : xa.frozen? ⟨yk.heap.size, 0, none⟩ = false := (hb.frozen (by simp; done)).trans (by simp; done); have n3 : xa.frozen? ⟨yk.heap.size, 1, none⟩ = false := (hb.frozen (by simp; done)).trans (by simp; done); clear hb))
            | (go_at_call 12; refine (c_left a b c _ Hhc.out).mono ?_; rintro e xb ⟨rfl, hb⟩; first | (have hZ := stepB hY hb; have d0b := cell_later hZ d0; have d1b := cell_later hZ d1; have d2b := cell_later hZ d2; have d3b := cell_later hZ d3; have d4b := cell_later hZ d4; have d5b := cell_later hZ d5; have k0b := cell_later hZ k0; have k1b := cell_later hZ k1; first | (have n8 := cell_later hb n0; have n9 := cell_later hb n1; have nl := World.block_lt_of_cell? _ _ n0; have n10 := (hb.frozen (p := ⟨yk.heap.size, 0, none⟩) nl).trans n2; have n11 := (hb.frozen (p := ⟨yk.heap.size, 1, none⟩) nl).trans n3; clear hb) | clear hb) | (have hZ := stepB (hY.alloc hY.size _) hb; have d0b := cell_later hZ d0; have d1b := cell_later hZ d1; have d2b := cell_later hZ d2; have d3b := cell_later hZ d3; have d4b := cell_later hZ d4; have d5b := cell_later hZ d5; have k0b := cell_later hZ k0; have k1b := cell_later hZ k1; have n4 : xb.cell? ⟨xa.heap.size, 0, none⟩ = some (.bool false) := cell_later hb (by simp; done); have n5 : xb.cell? ⟨xa.heap.size, 1, none⟩ = some (.int .u64 0) := cell_later hb (by simp; done); have n6 : xb.frozen? ⟨xa.heap.size, 0, none⟩ = false := (hb.frozen (by simp; done)).trans (by simp; done); have n7 : xb.frozen? ⟨xa.heap.size, 1, none⟩ = false := (hb.frozen (by simp; done)).trans (by simp; done); clear hb)))
          all_goals
            go_wp2_with fail
            go_meet
            first
              | exact ⟨_, rfl, rfl, hZ.alloc hZ.size _, by simp; done, by simp; done⟩
              | exact ⟨_, rfl, rfl, box_stored hZ (Nat.le_refl _) n8 n9⟩
              | exact ⟨_, rfl, rfl, box_stored hZ hY.size n4 n5⟩
        case rest =>
          obtain ⟨pl, rfl, rfl, hc, l0, l1⟩ := hcut
          rename World => yl
          clear hY0 ld lk
          replace hB := stepB hB hc
          replace d0 := cell_later hc d0
          replace d1 := cell_later hc d1
          replace d2 := cell_later hc d2
          replace d3 := cell_later hc d3
          replace d4 := cell_later hc d4
          replace d5 := cell_later hc d5
          replace k0 := cell_later hc k0
          replace k1 := cell_later hc k1
          clear hc
          have ld : X < yl.heap.size := World.block_lt_of_cell? _ _ d0
          have lk : pk < yl.heap.size := World.block_lt_of_cell? _ _ k0
          have ll : pl < yl.heap.size := World.block_lt_of_cell? _ _ l0
          go_wp2_with fail
          clear ld lk ll
          refine (int_U a _).mono ?_
          rintro e x11 ⟨rfl, hb⟩
          replace hB := stepB hB hb
          replace d0 := cell_later hb d0
          replace d1 := cell_later hb d1
          replace d2 := cell_later hb d2
          replace d3 := cell_later hb d3
          replace d4 := cell_later hb d4
          replace d5 := cell_later hb d5
          replace k0 := cell_later hb k0
          replace k1 := cell_later hb k1
          replace l0 := cell_later hb l0
          replace l1 := cell_later hb l1
          clear hb
          have ld : X < x11.heap.size := World.block_lt_of_cell? _ _ d0
          have lk : pk < x11.heap.size := World.block_lt_of_cell? _ _ k0
          have ll : pl < x11.heap.size := World.block_lt_of_cell? _ _ l0
          go_wp2_with fail
          clear ld lk ll
          refine (int_U c _).mono ?_
          rintro e x12 ⟨rfl, hb⟩
          replace hB := stepB hB hb
          replace d0 := cell_later hb d0
          replace d1 := cell_later hb d1
          replace d2 := cell_later hb d2
          replace d3 := cell_later hb d3
          replace d4 := cell_later hb d4
          replace d5 := cell_later hb d5
          replace k0 := cell_later hb k0
          replace k1 := cell_later hb k1
          replace l0 := cell_later hb l0
          replace l1 := cell_later hb l1
          clear hb
          have ld : X < x12.heap.size := World.block_lt_of_cell? _ _ d0
          have lk : pk < x12.heap.size := World.block_lt_of_cell? _ _ k0
          have ll : pl < x12.heap.size := World.block_lt_of_cell? _ _ l0
          go_wp2_with fail
          clear ld lk ll
          refine (calc_mul' a c _ Hha.out Hhc.out).mono ?_
          rintro e x13 ⟨rfl, hb⟩
          replace hB := stepB hB hb
          replace d0 := cell_later hb d0
          replace d1 := cell_later hb d1
          replace d2 := cell_later hb d2
          replace d3 := cell_later hb d3
          replace d4 := cell_later hb d4
          replace d5 := cell_later hb d5
          replace k0 := cell_later hb k0
          replace k1 := cell_later hb k1
          replace l0 := cell_later hb l0
          replace l1 := cell_later hb l1
          clear hb
          have ld : X < x13.heap.size := World.block_lt_of_cell? _ _ d0
          have lk : pk < x13.heap.size := World.block_lt_of_cell? _ _ k0
          have ll : pl < x13.heap.size := World.block_lt_of_cell? _ _ l0
          go_wp2_with fail
          clear ld lk ll
          replace d0 := cell_later ((Below.refl _ _).alloc (Nat.le_refl _) (Obj.cells #[Value.bool false, Value.int IntKind.u64 (U (wrap64 (a * c)))] 24)) d0
          replace d1 := cell_later ((Below.refl _ _).alloc (Nat.le_refl _) (Obj.cells #[Value.bool false, Value.int IntKind.u64 (U (wrap64 (a * c)))] 24)) d1
          replace d2 := cell_later ((Below.refl _ _).alloc (Nat.le_refl _) (Obj.cells #[Value.bool false, Value.int IntKind.u64 (U (wrap64 (a * c)))] 24)) d2
          replace d3 := cell_later ((Below.refl _ _).alloc (Nat.le_refl _) (Obj.cells #[Value.bool false, Value.int IntKind.u64 (U (wrap64 (a * c)))] 24)) d3
          replace d4 := cell_later ((Below.refl _ _).alloc (Nat.le_refl _) (Obj.cells #[Value.bool false, Value.int IntKind.u64 (U (wrap64 (a * c)))] 24)) d4
          replace d5 := cell_later ((Below.refl _ _).alloc (Nat.le_refl _) (Obj.cells #[Value.bool false, Value.int IntKind.u64 (U (wrap64 (a * c)))] 24)) d5
          replace k0 := cell_later ((Below.refl _ _).alloc (Nat.le_refl _) (Obj.cells #[Value.bool false, Value.int IntKind.u64 (U (wrap64 (a * c)))] 24)) k0
          replace k1 := cell_later ((Below.refl _ _).alloc (Nat.le_refl _) (Obj.cells #[Value.bool false, Value.int IntKind.u64 (U (wrap64 (a * c)))] 24)) k1
          replace l0 := cell_later ((Below.refl _ _).alloc (Nat.le_refl _) (Obj.cells #[Value.bool false, Value.int IntKind.u64 (U (wrap64 (a * c)))] 24)) l0
          replace l1 := cell_later ((Below.refl _ _).alloc (Nat.le_refl _) (Obj.cells #[Value.bool false, Value.int IntKind.u64 (U (wrap64 (a * c)))] 24)) l1
          have p0 : (World.alloc x13 (Obj.cells #[Value.bool false, Value.int IntKind.u64 (U (wrap64 (a * c)))] 24)).cell? ⟨x13.heap.size, 0, none⟩ = some (.bool false) := by simp
          have p1 : (World.alloc x13 (Obj.cells #[Value.bool false, Value.int IntKind.u64 (U (wrap64 (a * c)))] 24)).cell? ⟨x13.heap.size, 1, none⟩ = some (.int .u64 (U (wrap64 (a * c)))) := by simp
          replace hB := hB.alloc hB.size (Obj.cells #[Value.bool false, Value.int IntKind.u64 (U (wrap64 (a * c)))] 24)
          refine (int_U b _).mono ?_
          rintro e x14 ⟨rfl, hb⟩
          replace hB := stepB hB hb
          replace d0 := cell_later hb d0
          replace d1 := cell_later hb d1
          replace d2 := cell_later hb d2
          replace d3 := cell_later hb d3
          replace d4 := cell_later hb d4
          replace d5 := cell_later hb d5
          replace k0 := cell_later hb k0
          replace k1 := cell_later hb k1
          replace l0 := cell_later hb l0
          replace l1 := cell_later hb l1
          replace p0 := cell_later hb p0
          replace p1 := cell_later hb p1
          clear hb
          have ld : X < x14.heap.size := World.block_lt_of_cell? _ _ d0
          have lk : pk < x14.heap.size := World.block_lt_of_cell? _ _ k0
          have ll : pl < x14.heap.size := World.block_lt_of_cell? _ _ l0
          have lp : x13.heap.size < x14.heap.size := World.block_lt_of_cell? _ _ p0
          go_wp2_with fail
          clear ld lk ll lp
          refine (int_U c _).mono ?_
          rintro e x15 ⟨rfl, hb⟩
          replace hB := stepB hB hb
          replace d0 := cell_later hb d0
          replace d1 := cell_later hb d1
          replace d2 := cell_later hb d2
          replace d3 := cell_later hb d3
          replace d4 := cell_later hb d4
          replace d5 := cell_later hb d5
          replace k0 := cell_later hb k0
          replace k1 := cell_later hb k1
          replace l0 := cell_later hb l0
          replace l1 := cell_later hb l1
          replace p0 := cell_later hb p0
          replace p1 := cell_later hb p1
          clear hb
          have ld : X < x15.heap.size := World.block_lt_of_cell? _ _ d0
          have lk : pk < x15.heap.size := World.block_lt_of_cell? _ _ k0
          have ll : pl < x15.heap.size := World.block_lt_of_cell? _ _ l0
          have lp : x13.heap.size < x15.heap.size := World.block_lt_of_cell? _ _ p0
          go_wp2_with fail
          clear ld lk ll lp
          refine (calc_mul' b c _ Hhb.out Hhc.out).mono ?_
          rintro e x16 ⟨rfl, hb⟩
          replace hB := stepB hB hb
          replace d0 := cell_later hb d0
          replace d1 := cell_later hb d1
          replace d2 := cell_later hb d2
          replace d3 := cell_later hb d3
          replace d4 := cell_later hb d4
          replace d5 := cell_later hb d5
          replace k0 := cell_later hb k0
          replace k1 := cell_later hb k1
          replace l0 := cell_later hb l0
          replace l1 := cell_later hb l1
          replace p0 := cell_later hb p0
          replace p1 := cell_later hb p1
          clear hb
          have ld : X < x16.heap.size := World.block_lt_of_cell? _ _ d0
          have lk : pk < x16.heap.size := World.block_lt_of_cell? _ _ k0
          have ll : pl < x16.heap.size := World.block_lt_of_cell? _ _ l0
          have lp : x13.heap.size < x16.heap.size := World.block_lt_of_cell? _ _ p0
          go_wp2_with fail
          clear ld lk ll lp
          replace d0 := cell_later ((Below.refl _ _).alloc (Nat.le_refl _) (Obj.cells #[Value.bool false, Value.int IntKind.u64 (U (wrap64 (b * c)))] 24)) d0
          replace d1 := cell_later ((Below.refl _ _).alloc (Nat.le_refl _) (Obj.cells #[Value.bool false, Value.int IntKind.u64 (U (wrap64 (b * c)))] 24)) d1
          replace d2 := cell_later ((Below.refl _ _).alloc (Nat.le_refl _) (Obj.cells #[Value.bool false, Value.int IntKind.u64 (U (wrap64 (b * c)))] 24)) d2
          replace d3 := cell_later ((Below.refl _ _).alloc (Nat.le_refl _) (Obj.cells #[Value.bool false, Value.int IntKind.u64 (U (wrap64 (b * c)))] 24)) d3
          replace d4 := cell_later ((Below.refl _ _).alloc (Nat.le_refl _) (Obj.cells #[Value.bool false, Value.int IntKind.u64 (U (wrap64 (b * c)))] 24)) d4
          replace d5 := cell_later ((Below.refl _ _).alloc (Nat.le_refl _) (Obj.cells #[Value.bool false, Value.int IntKind.u64 (U (wrap64 (b * c)))] 24)) d5
          replace k0 := cell_later ((Below.refl _ _).alloc (Nat.le_refl _) (Obj.cells #[Value.bool false, Value.int IntKind.u64 (U (wrap64 (b * c)))] 24)) k0
          replace k1 := cell_later ((Below.refl _ _).alloc (Nat.le_refl _) (Obj.cells #[Value.bool false, Value.int IntKind.u64 (U (wrap64 (b * c)))] 24)) k1
          replace l0 := cell_later ((Below.refl _ _).alloc (Nat.le_refl _) (Obj.cells #[Value.bool false, Value.int IntKind.u64 (U (wrap64 (b * c)))] 24)) l0
          replace l1 := cell_later ((Below.refl _ _).alloc (Nat.le_refl _) (Obj.cells #[Value.bool false, Value.int IntKind.u64 (U (wrap64 (b * c)))] 24)) l1
          replace p0 := cell_later ((Below.refl _ _).alloc (Nat.le_refl _) (Obj.cells #[Value.bool false, Value.int IntKind.u64 (U (wrap64 (b * c)))] 24)) p0
          replace p1 := cell_later ((Below.refl _ _).alloc (Nat.le_refl _) (Obj.cells #[Value.bool false, Value.int IntKind.u64 (U (wrap64 (b * c)))] 24)) p1
          have q0 : (World.alloc x16 (Obj.cells #[Value.bool false, Value.int IntKind.u64 (U (wrap64 (b * c)))] 24)).cell? ⟨x16.heap.size, 0, none⟩ = some (.bool false) := by simp
          have q1 : (World.alloc x16 (Obj.cells #[Value.bool false, Value.int IntKind.u64 (U (wrap64 (b * c)))] 24)).cell? ⟨x16.heap.size, 1, none⟩ = some (.int .u64 (U (wrap64 (b * c)))) := by simp
          replace hB := hB.alloc hB.size (Obj.cells #[Value.bool false, Value.int IntKind.u64 (U (wrap64 (b * c)))] 24)
          refine (c_right a b c _).mono ?_
          rintro e x17 ⟨rfl, hb⟩
          replace hB := stepB hB hb
          replace d0 := cell_later hb d0
          replace d1 := cell_later hb d1
          replace d2 := cell_later hb d2
          replace d3 := cell_later hb d3
          replace d4 := cell_later hb d4
          replace d5 := cell_later hb d5
          replace k0 := cell_later hb k0
          replace k1 := cell_later hb k1
          replace l0 := cell_later hb l0
          replace l1 := cell_later hb l1
          replace p0 := cell_later hb p0
          replace p1 := cell_later hb p1
          replace q0 := cell_later hb q0
          replace q1 := cell_later hb q1
          clear hb
          have ld : X < x17.heap.size := World.block_lt_of_cell? _ _ d0
          have lk : pk < x17.heap.size := World.block_lt_of_cell? _ _ k0
          have ll : pl < x17.heap.size := World.block_lt_of_cell? _ _ l0
          have lp : x13.heap.size < x17.heap.size := World.block_lt_of_cell? _ _ p0
          have lq : x16.heap.size < x17.heap.size := World.block_lt_of_cell? _ _ q0
          go_wp2_with fail
          clear ld lk ll lp lq
          clear p0 p1 q0 q1 d0 d1 d2 d3
          replace d4 := cell_later ((Below.refl _ _).alloc (Nat.le_refl _) (Obj.cells #[Value.bool false, Value.int IntKind.u64 (U ((a + b) * c))] 24)) d4
          replace d5 := cell_later ((Below.refl _ _).alloc (Nat.le_refl _) (Obj.cells #[Value.bool false, Value.int IntKind.u64 (U ((a + b) * c))] 24)) d5
          replace k0 := cell_later ((Below.refl _ _).alloc (Nat.le_refl _) (Obj.cells #[Value.bool false, Value.int IntKind.u64 (U ((a + b) * c))] 24)) k0
          replace k1 := cell_later ((Below.refl _ _).alloc (Nat.le_refl _) (Obj.cells #[Value.bool false, Value.int IntKind.u64 (U ((a + b) * c))] 24)) k1
          replace l0 := cell_later ((Below.refl _ _).alloc (Nat.le_refl _) (Obj.cells #[Value.bool false, Value.int IntKind.u64 (U ((a + b) * c))] 24)) l0
          replace l1 := cell_later ((Below.refl _ _).alloc (Nat.le_refl _) (Obj.cells #[Value.bool false, Value.int IntKind.u64 (U ((a + b) * c))] 24)) l1
          have r0 : (World.alloc x17 (Obj.cells #[Value.bool false, Value.int IntKind.u64 (U ((a + b) * c))] 24)).cell? ⟨x17.heap.size, 0, none⟩ = some (.bool false) := by simp
          have r1 : (World.alloc x17 (Obj.cells #[Value.bool false, Value.int IntKind.u64 (U ((a + b) * c))] 24)).cell? ⟨x17.heap.size, 1, none⟩ = some (.int .u64 (U ((a + b) * c))) := by simp
          replace hB := hB.alloc hB.size (Obj.cells #[Value.bool false, Value.int IntKind.u64 (U ((a + b) * c))] 24)
          refine (int_U b _).mono ?_
          rintro e x18 ⟨rfl, hb⟩
          replace hB := stepB hB hb
          replace d4 := cell_later hb d4
          replace d5 := cell_later hb d5
          replace k0 := cell_later hb k0
          replace k1 := cell_later hb k1
          replace l0 := cell_later hb l0
          replace l1 := cell_later hb l1
          replace r0 := cell_later hb r0
          replace r1 := cell_later hb r1
          clear hb
          have ld : X < x18.heap.size := World.block_lt_of_cell? _ _ d4
          have lk : pk < x18.heap.size := World.block_lt_of_cell? _ _ k0
          have ll : pl < x18.heap.size := World.block_lt_of_cell? _ _ l0
          have lr : x17.heap.size < x18.heap.size := World.block_lt_of_cell? _ _ r0
          go_wp2_with fail
          clear ld lk ll lr
          refine (int_U a _).mono ?_
          rintro e x19 ⟨rfl, hb⟩
          replace hB := stepB hB hb
          replace d4 := cell_later hb d4
          replace d5 := cell_later hb d5
          replace k0 := cell_later hb k0
          replace k1 := cell_later hb k1
          replace l0 := cell_later hb l0
          replace l1 := cell_later hb l1
          replace r0 := cell_later hb r0
          replace r1 := cell_later hb r1
          clear hb
          have ld : X < x19.heap.size := World.block_lt_of_cell? _ _ d4
          have lk : pk < x19.heap.size := World.block_lt_of_cell? _ _ k0
          have ll : pl < x19.heap.size := World.block_lt_of_cell? _ _ l0
          have lr : x17.heap.size < x19.heap.size := World.block_lt_of_cell? _ _ r0
          go_wp2_with fail
          clear ld lk ll lr
          refine (c_turned a b _ Hha.out Hhb.out).mono ?_
          rintro e x20 ⟨rfl, hb⟩
          replace hB := stepB hB hb
          replace d4 := cell_later hb d4
          replace d5 := cell_later hb d5
          replace k0 := cell_later hb k0
          replace k1 := cell_later hb k1
          replace l0 := cell_later hb l0
          replace l1 := cell_later hb l1
          replace r0 := cell_later hb r0
          replace r1 := cell_later hb r1
          clear hb
          have ld : X < x20.heap.size := World.block_lt_of_cell? _ _ d4
          have lk : pk < x20.heap.size := World.block_lt_of_cell? _ _ k0
          have ll : pl < x20.heap.size := World.block_lt_of_cell? _ _ l0
          have lr : x17.heap.size < x20.heap.size := World.block_lt_of_cell? _ _ r0
          go_wp2_with fail
          clear ld lk ll lr
          replace d4 := cell_later ((Below.refl _ _).alloc (Nat.le_refl _) (Obj.cells #[Value.bool false, Value.int IntKind.u64 (U (wrap64 (a * b)))] 24)) d4
          replace d5 := cell_later ((Below.refl _ _).alloc (Nat.le_refl _) (Obj.cells #[Value.bool false, Value.int IntKind.u64 (U (wrap64 (a * b)))] 24)) d5
          replace k0 := cell_later ((Below.refl _ _).alloc (Nat.le_refl _) (Obj.cells #[Value.bool false, Value.int IntKind.u64 (U (wrap64 (a * b)))] 24)) k0
          replace k1 := cell_later ((Below.refl _ _).alloc (Nat.le_refl _) (Obj.cells #[Value.bool false, Value.int IntKind.u64 (U (wrap64 (a * b)))] 24)) k1
          replace l0 := cell_later ((Below.refl _ _).alloc (Nat.le_refl _) (Obj.cells #[Value.bool false, Value.int IntKind.u64 (U (wrap64 (a * b)))] 24)) l0
          replace l1 := cell_later ((Below.refl _ _).alloc (Nat.le_refl _) (Obj.cells #[Value.bool false, Value.int IntKind.u64 (U (wrap64 (a * b)))] 24)) l1
          replace r0 := cell_later ((Below.refl _ _).alloc (Nat.le_refl _) (Obj.cells #[Value.bool false, Value.int IntKind.u64 (U (wrap64 (a * b)))] 24)) r0
          replace r1 := cell_later ((Below.refl _ _).alloc (Nat.le_refl _) (Obj.cells #[Value.bool false, Value.int IntKind.u64 (U (wrap64 (a * b)))] 24)) r1
          have t0 : (World.alloc x20 (Obj.cells #[Value.bool false, Value.int IntKind.u64 (U (wrap64 (a * b)))] 24)).cell? ⟨x20.heap.size, 0, none⟩ = some (.bool false) := by simp
          have t1 : (World.alloc x20 (Obj.cells #[Value.bool false, Value.int IntKind.u64 (U (wrap64 (a * b)))] 24)).cell? ⟨x20.heap.size, 1, none⟩ = some (.int .u64 (U (wrap64 (a * b)))) := by simp
          replace hB := hB.alloc hB.size (Obj.cells #[Value.bool false, Value.int IntKind.u64 (U (wrap64 (a * b)))] 24)
          go_region_held3 (fun w' => Below W.heap.size W w' ∧ w'.cell? ⟨X, 4, none⟩ = some (.bool false) ∧ w'.cell? ⟨X, 5, none⟩ = some (.int .u64 (U (wrap64 (a * b)))) ∧ w'.cell? ⟨pk, 0, none⟩ = some (.bool false) ∧ w'.cell? ⟨pk, 1, none⟩ = some (.int .u64 (U a)) ∧ w'.cell? ⟨pl, 0, none⟩ = some (.bool false) ∧ w'.cell? ⟨pl, 1, none⟩ = some (.int .u64 (U ((a + b) * c))) ∧ w'.cell? ⟨x17.heap.size, 0, none⟩ = some (.bool false) ∧ w'.cell? ⟨x17.heap.size, 1, none⟩ = some (.int .u64 (U ((a + b) * c))) ∧ w'.cell? ⟨x20.heap.size, 0, none⟩ = some (.bool false) ∧ w'.cell? ⟨x20.heap.size, 1, none⟩ = some (.int .u64 (U (wrap64 (a * b)))))
            (first
              | exact keepc10 ⟨hB, d4, d5, k0, k1, l0, l1, r0, r1, t0, t1⟩ (Below.refl _ _).drew
              | exact hK
              | exact keepc10 hK ((Below.refl _ _).alloc (Nat.le_refl _) _)
              | exact keepc10 (by assumption) hb)
            (first
              | (go_at_call 18; refine (int_U a _).mono ?_; rintro e xe ⟨rfl, hb⟩; have hK := keepc10 (by assumption) hb; clear hb))
          clear hB d4 d5 k0 k1 l0 l1 r0 r1 t0 t1
          obtain ⟨hB, d4, d5, k0, k1, l0, l1, r0, r1, t0, t1⟩ := hK
          clear d4 d5 k0 k1 l0 l1 r0 r1 t0 t1
          go_wp2_with fail
          refine (int_U a _).mono ?_
          rintro e x21 ⟨rfl, hb⟩
          replace hB := stepB hB hb
          clear hb
          go_wp2_with fail
          refine (int_U b _).mono ?_
          rintro e x22 ⟨rfl, hb⟩
          replace hB := stepB hB hb
          clear hb
          go_wp2_with fail
          refine (Hcdiv.out _).mono ?_
          rintro e x23 ⟨rfl, hb⟩
          replace hB := stepB hB hb
          clear hb
          go_wp2_with fail
          have x0 : (World.alloc x23 (Obj.cells #[Value.bool false, Value.int IntKind.u64 0] 24)).cell? ⟨x23.heap.size, 0, none⟩ = some (.bool false) := by simp
          have x1 : (World.alloc x23 (Obj.cells #[Value.bool false, Value.int IntKind.u64 0] 24)).cell? ⟨x23.heap.size, 1, none⟩ = some (.int .u64 0) := by simp
          replace hB := hB.alloc hB.size (Obj.cells #[Value.bool false, Value.int IntKind.u64 0] 24)
          refine (int_U a _).mono ?_
          rintro e x24 ⟨rfl, hb⟩
          replace hB := stepB hB hb
          replace x0 := cell_later hb x0
          replace x1 := cell_later hb x1
          clear hb
          have lx : x23.heap.size < x24.heap.size := World.block_lt_of_cell? _ _ x0
          go_wp2_with fail
          clear lx
          refine (int_U b _).mono ?_
          rintro e x25 ⟨rfl, hb⟩
          replace hB := stepB hB hb
          replace x0 := cell_later hb x0
          replace x1 := cell_later hb x1
          clear hb
          have lx : x23.heap.size < x25.heap.size := World.block_lt_of_cell? _ _ x0
          go_wp2_with fail
          clear lx
          refine (Hcrem.out _).mono ?_
          rintro e x26 ⟨rfl, hb⟩
          replace hB := stepB hB hb
          replace x0 := cell_later hb x0
          replace x1 := cell_later hb x1
          clear hb
          have hd1 : (d != 0) = true := bne_iff_ne.2 Hhd.out
          clear hA Hha Hhb Hhc Hcdiv Hcrem x0 x1
          rcases Hhbad.out with h0 | ⟨h1, h2⟩
          · have e0 : (b == 0) = true := by rw [h0]; rfl
            clear h0 Hhbad
            go_wp2
            go_ret
            exact ⟨rfl, hB.alloc hB.size _⟩
          · have e0 : (b == 0) = false := by rw [h2]; rfl
            have e1 : (a == -9223372036854775808) = true := by rw [h1]; rfl
            have e2 : (b == -1) = true := by rw [h2]; rfl
            clear h1 h2 Hhbad
            go_wp2
            go_ret
            exact ⟨rfl, hB.alloc hB.size _⟩

end Go.Proofs.YtkipioojdlkbcaaDoor.numRings
