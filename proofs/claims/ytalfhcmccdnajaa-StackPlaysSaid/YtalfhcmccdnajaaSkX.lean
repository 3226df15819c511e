/- The document's Left, Same; the law's same. -/
import Derived.Test.YtalfhcmccdnajaaSkW
import Derived.Test.YtalfhcmccdnajaaSkQ
namespace Go.Proofs.Ytalfhcmccdnajaa
open Go.RowKit Go.Sort

set_option maxHeartbeats 4000000 in
theorem rleft_any (q left : Nat) (vL vT : Value) (room : Int) (L : List Fr) (w : World) (h : Rf w q vL vT room L left) (hu : L.length ≤ 2048) (hle : left ≤ L.length) :
    Calls Try.prog 17 #[.pointer (some ⟨q, 0, none⟩)] w fun e w' => e = .returned (.int .i64 left) ∧ w' = w := by
  have c1 := h.c1
  obtain ⟨ao, cap, hv⟩ := h.bs.sl
  rw [todo_length] at hv
  have H := Lib.hid (And.intro h.bs hv)
  rw [hv] at c1
  clear h hv
  go_enter Try.func17, Try.ntmps17
  go_wp2_with fail
  go_loopw [3, 4] (fun s3 s4 wr => ∃ i m : Nat, i ≤ L.length ∧ m = min i left ∧ s3 = .int .i64 m ∧ s4 = .int .i64 i ∧ wr = w) (fun _ s4 _ => L.length - (RowKit.intOf s4).toNat)
  case atStart => exact ⟨0, 0, Nat.zero_le _, by omega, rfl, rfl, rfl⟩
  case round =>
    obtain ⟨i, m, hi, hm, rfl, rfl, rfl⟩ := hrel
    by_cases hlt : i < L.length
    · obtain ⟨g, cap', hv', -, -, hc, -⟩ := H.out.1.cell (todo_get (left := left) hlt)
      have hv2 := H.out.2
      rw [hv', todo_length] at hv2
      simp only [Value.slice.injEq, true_and] at hv2
      obtain ⟨rfl, -⟩ := hv2
      have HM := Lib.hid hm
      by_cases hil : i < left
      · have e1 : decide (i < left) = true := decide_eq_true hil
        rw [e1] at hc
        have hmi : m = i := by omega
        subst hmi
        clear hm hv' e1
        go_wp2_with fail
        go_roundw
        case rel => first | exact ⟨m + 1, m + 1, by omega, by omega, by go_num, by go_num, rfl⟩ | exact ⟨m + 1, m + 1, by omega, by omega, by go_num, by go_num, trivial⟩
        case measure => simp [RowKit.intOf]; omega
      · have e1 : decide (i < left) = false := decide_eq_false hil
        rw [e1] at hc
        clear hm hv' e1
        go_wp2_with fail
        go_roundw
        case rel => first | exact ⟨i + 1, m, by omega, by have := HM.out; omega, by go_num, by go_num, rfl⟩ | exact ⟨i + 1, m, by omega, by have := HM.out; omega, rfl, by go_num, trivial⟩ | exact ⟨i + 1, m, by omega, by have := HM.out; omega, trivial, by go_num, trivial⟩
        case measure => simp [RowKit.intOf]; omega
    · obtain rfl : i = L.length := by omega
      obtain rfl : m = left := by omega
      go_wp2_with fail
      go_ret
      exact ⟨rfl, rfl⟩

set_option maxHeartbeats 4000000 in
/-- What is told the same is the same. -/
theorem same_any (k n : Int) (ws : List Int) (a1 : Option Addr) (c1 : Nat) (a2 : Option Addr) (c2 : Nat) (fr ok : Bool) (er : Int) (K1 K2 : Nat → Prop) (w : World) (h1 : WAt K1 w ⟨k, n, ws, a1, c1⟩) (h2 : WAt K2 w ⟨k, n, ws, a2, c2⟩) :
    Calls Try.prog 10 #[.agg #[.int .i64 k, .int .i64 n, .slice a1 ws.length c1, .bool fr, .bool ok, .int .i64 er], .agg #[.int .i64 k, .int .i64 n, .slice a2 ws.length c2, .bool fr, .bool ok, .int .i64 er]] w fun e w' => e = .returned (.bool true) ∧ Below w.heap.size w w' := by
  have hb := ((Below.refl w.heap.size w).alloc (Nat.le_refl _) (.cells #[.int .i64 k, .int .i64 n, .slice a1 ws.length c1, .bool fr, .bool ok, .int .i64 er] 39)).alloc (by simp) (.cells #[.int .i64 k, .int .i64 n, .slice a2 ws.length c2, .bool fr, .bool ok, .int .i64 er] 39)
  have hz1 : (w.alloc (.cells #[.int .i64 k, .int .i64 n, .slice a1 ws.length c1, .bool fr, .bool ok, .int .i64 er] 39)).heap.size = w.heap.size + 1 := World.size_alloc ..
  have hz2 : ((w.alloc (.cells #[.int .i64 k, .int .i64 n, .slice a1 ws.length c1, .bool fr, .bool ok, .int .i64 er] 39)).alloc (.cells #[.int .i64 k, .int .i64 n, .slice a2 ws.length c2, .bool fr, .bool ok, .int .i64 er] 39)).heap.size = w.heap.size + 2 := by rw [World.size_alloc, hz1]
  have hx1 := (Below.heap_alloc (w.alloc (.cells #[.int .i64 k, .int .i64 n, .slice a1 ws.length c1, .bool fr, .bool ok, .int .i64 er] 39)) (.cells #[.int .i64 k, .int .i64 n, .slice a2 ws.length c2, .bool fr, .bool ok, .int .i64 er] 39) w.heap.size (by omega)).trans (heap_alloc_new _ _)
  have hx2 := heap_alloc_new (w.alloc (.cells #[.int .i64 k, .int .i64 n, .slice a1 ws.length c1, .bool fr, .bool ok, .int .i64 er] 39)) (.cells #[.int .i64 k, .int .i64 n, .slice a2 ws.length c2, .bool fr, .bool ok, .int .i64 er] 39)
  rw [hz1] at hx2
  have HW := Lib.hid (And.intro (h1.move (K' := K1) (fun g hg hk => ⟨hk, hb.block g hg⟩) hb.size) (And.intro (h2.move (K' := K2) (fun g hg hk => ⟨hk, hb.block g hg⟩) hb.size) (And.intro hb hz2)))
  have HX1 := Lib.hid hx1
  have HX2 := Lib.hid hx2
  clear h1 h2 hb hz1 hz2 hx1 hx2
  go_enter Try.func10, Try.ntmps10
  go_wp2_with fail
  refine (sameframe_any k n ws a1 c1 a2 c2 K1 K2 _ HW.out.1 HW.out.2.1).mono ?_
  rintro e w1 ⟨rfl, hb1⟩
  have y1 := (hb1.block w.heap.size (by have := HW.out.2.2.2; omega)).trans HX1.out
  have y2 := (hb1.block (w.heap.size + 1) (by have := HW.out.2.2.2; omega)).trans HX2.out
  have e3 := cell_of_row _ _ 3 _ _ _ y1
  have e4 := cell_of_row _ _ 4 _ _ _ y1
  have e5 := cell_of_row _ _ 5 _ _ _ y1
  have f3 := cell_of_row _ _ 3 _ _ _ y2
  have f4 := cell_of_row _ _ 4 _ _ _ y2
  have f5 := cell_of_row _ _ 5 _ _ _ y2
  have HB := Lib.hid (HW.out.2.2.1.trans (hb1.mono HW.out.2.2.1.size))
  clear hb1 y1 y2
  go_wp2_with fail
  go_ret
  exact ⟨by simp, HB.out⟩

set_option maxHeartbeats 8000000 in
/-- Lists that are told the same are the same. -/
theorem lsame_any (A B : List Fr) (va vb : Value) (K1 K2 : Nat → Prop) (w : World) (hA : FsAt w va A) (hB : FsAt w vb B) (he : A.map Fr.told = B.map Fr.told) (h1 : ∀ f, f ∈ A → WAt K1 w f) (h2 : ∀ f, f ∈ B → WAt K2 w f) (hl : A.length ≤ 2048) :
    Calls Try.prog 18 #[va, vb] w fun e w' => e = .returned (.bool true) ∧ Below w.heap.size w w' := by
  have hlen : B.length = A.length := by have := congrArg List.length he; simpa using this.symm
  obtain ⟨aa, ca, hva⟩ := hA.sl
  obtain ⟨ab, cb, hvb⟩ := hB.sl
  rw [hlen] at hvb
  have H := Lib.hid (And.intro hA (And.intro hB (And.intro he (And.intro h1 h2))))
  subst hva hvb
  have HL := Lib.hid hlen
  clear hA hB he h1 h2 hlen
  go_enter Try.func18, Try.ntmps18
  go_wp2_with fail
  go_loopw [5] (fun s5 wr => ∃ i : Nat, i ≤ A.length ∧ s5 = .int .i64 i ∧ Below w.heap.size w wr) (fun s5 _ => A.length - (RowKit.intOf s5).toNat)
  case atStart => exact ⟨0, Nat.zero_le _, rfl, Below.refl _ _⟩
  case round =>
    obtain ⟨i, hi, rfl, hBr⟩ := hrel
    by_cases hlt : i < A.length
    · obtain ⟨⟨fk, fn, fws, fa, fc⟩, hf⟩ : ∃ f, A[i]? = some f := ⟨_, List.getElem?_eq_getElem hlt⟩
      obtain ⟨⟨gk, gn, gws, ga, gc⟩, hg⟩ : ∃ f, B[i]? = some f := ⟨_, List.getElem?_eq_getElem (by have := HL.out; omega)⟩
      have ht := congrArg (fun l => l[i]?) H.out.2.2.1
      simp only [List.getElem?_map, hf, hg, Option.map_some, Option.some.injEq, Fr.told, Prod.mk.injEq] at ht
      obtain ⟨rfl, rfl, rfl⟩ := ht
      obtain ⟨xa, ya, hv1, -, -, hx1, k0, k1, k2⟩ := H.out.1.cell hf
      obtain ⟨xb, yb, hv2, -, -, hx2, l0, l1, l2⟩ := H.out.2.1.cell hg
      rw [HL.out] at hv2
      simp only [Value.slice.injEq, true_and] at hv1 hv2
      obtain ⟨rfl, rfl⟩ := hv1
      obtain ⟨rfl, rfl⟩ := hv2
      have q0 := (hBr.cell (p := ⟨xa, i * 3, none⟩) hx1).trans k0
      have q1 := (hBr.cell (p := ⟨xa, i * 3 + 1, none⟩) hx1).trans k1
      have q2 := (hBr.cell (p := ⟨xa, i * 3 + 2, none⟩) hx1).trans k2
      have p0 := (hBr.cell (p := ⟨xb, i * 3, none⟩) hx2).trans l0
      have p1 := (hBr.cell (p := ⟨xb, i * 3 + 1, none⟩) hx2).trans l1
      have p2 := (hBr.cell (p := ⟨xb, i * 3 + 2, none⟩) hx2).trans l2
      have HBr := Lib.hid hBr
      have HW := Lib.hid (And.intro ((H.out.2.2.2.1 _ (List.mem_of_getElem? hf)).move (W' := wr) (K' := K1) (fun g hg hk => ⟨hk, hBr.block g hg⟩) hBr.size) ((H.out.2.2.2.2 _ (List.mem_of_getElem? hg)).move (W' := wr) (K' := K2) (fun g hg hk => ⟨hk, hBr.block g hg⟩) hBr.size))
      have hlt' : (i : Int) < (A.length : Int) := by omega
      clear hf hg k0 k1 k2 l0 l1 l2 hx1 hx2 hBr
      go_wp2_with fail
      have k0 := cell_regrown q0
      have k1 := cell_regrown q1
      have k2 := cell_regrown q2
      have k3 := cell_regrown p0
      have k4 := cell_regrown p1
      have k5 := cell_regrown p2
      refine wp_region_quiet_below (by kernel_rfl) (by kernel_rfl) ?_
      repeat (first | go_big_quiet_skip | (quiet_step (exact sameframe_regrown _ _ _ _ _ _ _ _ _ _ _ _ HW.out.1 HW.out.2)))
      refine wpQuiet_nil ?_
      intro _ hw'
      obtain ⟨⟨dq, osq⟩, hw''⟩ := hw'
      subst hw''
      clear k0 k1 k2 k3 k4 k5 q0 q1 q2 p0 p1 p2
      have hbq := below_regrown wr dq osq
      have HQ := Lib.hid (HBr.out.trans (hbq.mono HBr.out.size))
      clear hbq
      show Exit.then _ _ _ _ (grow (redrawn wr dq) osq)
      generalize grow (redrawn wr dq) osq = W9 at HQ ⊢
      go_wp2_with fail
      go_roundw
      case rel => exact ⟨i + 1, by omega, by go_num, HQ.out⟩
      case measure => simp [RowKit.intOf]; omega
    · obtain rfl : i = A.length := by omega
      go_wp2_with fail
      go_ret
      exact ⟨rfl, hBr⟩

end Go.Proofs.Ytalfhcmccdnajaa
