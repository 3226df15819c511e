/- RingPlays: its walk. -/
import Derived.Test.YtcahdmnhdeofoaaRjG
namespace Go.Proofs.Ytcahdmnhdeofoaa
open Go.RowKit Go.Shelf

/-- In the midst of a law: the program's ring, and the document's, have the same rows. -/
structure Both (w : World) (s : Spot) (q : Nat) (R : Rows) (W : World) : Prop where
  ring : Ring s R W
  ref : Ref W q s.n R
  below : Below w.heap.size w W
  r0 : w.heap.size ≤ s.r
  p0 : w.heap.size ≤ s.p
  d0 : w.heap.size ≤ s.d
  rq : s.r < q
  pq : s.p < q
  dq : s.d < q
theorem Both.later {w W W' : World} {s : Spot} {q : Nat} {R : Rows} (h : Both w s q R W) (hb : Below W.heap.size W W') : Both w s q R W' :=
  ⟨h.ring.later hb, h.ref.later hb, onB' h.below hb, h.r0, h.p0, h.d0, h.rq, h.pq, h.dq⟩
theorem Both.fit {w W : World} {s : Spot} {q : Nat} {R : Rows} (h : Both w s q R W) : Fit s.n R.all ∧ s.n ≤ 65536 ∧ (∀ x, x ∈ R.all → 1 ≤ x) ∧ (∀ x, x ∈ R.all → 1 ≤ x ∧ x ≤ 65536) := by
  obtain ⟨C, F, D, hL, hI⟩ := h.ring
  have hn := hL.nb
  refine ⟨hI.fit, hn, fun x hx => (hI.fit.rng x hx).1, fun x hx => ?_⟩
  have := hI.fit.rng x hx
  omega

theorem wpAnyH_narrow {P : Program} {md : Region.Mode} {ops : Array Oper} {Q : Exit → Act → World → Prop} {S S' : World → Prop} (hS : ∀ w, S' w → S w) :
    ∀ (fuel : Nat) (listed : Array Bool) (a : Act) (w : World), wpAnyH P md ops Q S' fuel listed a w → wpAnyH P md ops Q S fuel listed a w
  | 0, _, _, _, h => h
  | _ + 1, _, _, _, h => ⟨h.1, fun i hi => wpOp_mono (fun _ _ g => ⟨hS _ g.1, wpAnyH_narrow hS _ _ _ _ g.2⟩) (h.2 i hi)⟩

/-- What a region holds on to: what was told, and the act. -/
def Keep (tb b o : Nat) (K N c : Int) (t : Bool) (e : Int) (W : World) : Prop :=
  W.cell? ⟨tb, 0, none⟩ = some (.int .i64 c) ∧ W.cell? ⟨tb, 1, none⟩ = some (.bool t) ∧ W.cell? ⟨tb, 2, none⟩ = some (.int .i64 e) ∧ W.cell? ⟨b, o, none⟩ = some (.int .i64 K) ∧ W.cell? ⟨b, o + 1, none⟩ = some (.int .i64 N)
theorem Keep.by {tb b o : Nat} {K N c : Int} {t : Bool} {e : Int} {W W' : World} (h : Keep tb b o K N c t e W) (h1 : W'.heap[tb]? = W.heap[tb]?) (h2 : W'.heap[b]? = W.heap[b]?) : Keep tb b o K N c t e W' := by
  obtain ⟨a1, a2, a3, a4, a5⟩ := h
  exact ⟨(World.cell?_of_block (w := W) h1).trans a1, (World.cell?_of_block (w := W) h1).trans a2, (World.cell?_of_block (w := W) h1).trans a3, (World.cell?_of_block (w := W) h2).trans a4, (World.cell?_of_block (w := W) h2).trans a5⟩
theorem Keep.lt {tb b o : Nat} {K N c : Int} {t : Bool} {e : Int} {W : World} (h : Keep tb b o K N c t e W) : tb < W.heap.size ∧ b < W.heap.size := ⟨World.block_lt_of_cell? _ _ h.1, World.block_lt_of_cell? _ _ h.2.2.2.1⟩
theorem Keep.later {tb b o : Nat} {K N c : Int} {t : Bool} {e : Int} {W W' : World} (h : Keep tb b o K N c t e W) (hb : Below W.heap.size W W') : Keep tb b o K N c t e W' := h.by (hb.block _ h.lt.1) (hb.block _ h.lt.2)

/-- The document's rows as they lie, in the midst of a region. -/
structure Laid (q : Nat) (v0 v1 v2 v3 : Value) (R : Rows) (W : World) : Prop where
  c0 : W.cell? ⟨q, 0, none⟩ = some v0
  c1 : W.cell? ⟨q, 1, none⟩ = some v1
  c2 : W.cell? ⟨q, 2, none⟩ = some v2
  c3 : W.cell? ⟨q, 3, none⟩ = some v3
  row : ∃ hi, hi ≤ W.heap.size ∧ Fours W (q + 1) hi v0 v1 v2 v3 R
theorem Laid.by {q : Nat} {v0 v1 v2 v3 : Value} {R : Rows} {W W' : World} (h : Laid q v0 v1 v2 v3 R W) (hs : W.heap.size ≤ W'.heap.size) (hk : ∀ k, q ≤ k → k < W.heap.size → W'.heap[k]? = W.heap[k]?) : Laid q v0 v1 v2 v3 R W' := by
  have hq := hk q (Nat.le_refl _) (World.block_lt_of_cell? _ _ h.c0)
  obtain ⟨hi, h1, h2⟩ := h.row
  have r : ∀ (v : Value) (l : List Int), Row W (q + 1) hi v l → Row W' (q + 1) hi v l := fun v l h => h.same fun b o g1 g2 g3 _ => (hk b (by omega) (by omega)).trans g3
  exact ⟨(World.cell?_of_block (w := W) hq).trans h.c0, (World.cell?_of_block (w := W) hq).trans h.c1, (World.cell?_of_block (w := W) hq).trans h.c2, (World.cell?_of_block (w := W) hq).trans h.c3, hi, by omega, ⟨r _ _ h2.1, r _ _ h2.2.1, r _ _ h2.2.2.1, r _ _ h2.2.2.2⟩⟩
theorem Laid.later {q : Nat} {v0 v1 v2 v3 : Value} {R : Rows} {W W' : World} (h : Laid q v0 v1 v2 v3 R W) (hb : Below W.heap.size W W') : Laid q v0 v1 v2 v3 R W' := h.by hb.size fun k _ h2 => hb.block k h2
theorem Both.laid {w W : World} {s : Spot} {q : Nat} {R : Rows} (h : Both w s q R W) : ∃ v0 v1 v2 v3, Laid q v0 v1 v2 v3 R W := by
  obtain ⟨v0, v1, v2, v3, c0, c1, c2, c3, -, -, hF, -⟩ := h.ref
  exact ⟨v0, v1, v2, v3, c0, c1, c2, c3, _, Nat.le_refl _, hF⟩
theorem Both.turn {w W W' : World} {s : Spot} {q : Nat} {R : Rows} (h : Both w s q R W) (hR : Ring s R W') (ht : Turn s W W') : Both w s q R W' :=
  ⟨hR, h.ref.turn ht h.rq h.pq h.dq, h.below.trans (ht.below h.r0 h.p0 h.d0 h.below.size), h.r0, h.p0, h.d0, h.rq, h.pq, h.dq⟩

theorem Keep.one {tb b o q : Nat} {K N c : Int} {t : Bool} {e : Int} {W W' : World} (h : Keep tb b o K N c t e W) (h1 : tb ≠ q) (h2 : b ≠ q) (ho : One q W W') : Keep tb b o K N c t e W' := h.by (ho.block _ h.lt.1 h1) (ho.block _ h.lt.2 h2)
theorem Keep.turn {tb b o q : Nat} {K N c : Int} {t : Bool} {e : Int} {w W W' : World} {s : Spot} {R : Rows} (h : Keep tb b o K N c t e W) (_ : Both w s q R W) (ht : Turn s W W') (h1 : tb ≠ s.r ∧ tb ≠ s.p ∧ tb ≠ s.d) (h2 : b ≠ s.r ∧ b ≠ s.p ∧ b ≠ s.d) : Keep tb b o K N c t e W' :=
  h.by (ht.block _ h.lt.1 h1.1 h1.2.1 h1.2.2) (ht.block _ h.lt.2 h2.1 h2.2.1 h2.2.2)
theorem Laid.turn {q : Nat} {v0 v1 v2 v3 : Value} {R : Rows} {w W W' : World} {s : Spot} {Q : Rows} (h : Laid q v0 v1 v2 v3 R W) (hB : Both w s q Q W) (ht : Turn s W W') : Laid q v0 v1 v2 v3 R W' := by
  have := hB.rq
  have := hB.pq
  have := hB.dq
  exact h.by ht.size fun k h1 h2 => ht.block k h2 (by omega) (by omega) (by omega)
theorem both_of {w W W' : World} {s : Spot} {q : Nat} {R R' : Rows} (h : Ring s R' W ∧ Ref W q s.n R ∧ Below w.heap.size w W ∧ s.r < q ∧ s.p < q ∧ s.d < q ∧ w.heap.size ≤ s.r ∧ w.heap.size ≤ s.p ∧ w.heap.size ≤ s.d) (hQ : Ref W' q s.n R') (ho : One q W W') : Both w s q R' W' := by
  obtain ⟨h1, h2, h3, h4, h5, h6, h7, h8, h9⟩ := h
  exact ⟨h1.one h2 (by omega) (by omega) ho, hQ, h3.trans (ho.below (by omega) h3.size), h7, h8, h9, h4, h5, h6⟩

set_option maxHeartbeats 16000000 in
set_option maxRecDepth 100000 in
theorem plays_in (n : Nat) (a0 : Option Addr) (len cap0 : Nat) (w : World) (hacts : Acts w a0 len) (n0 : 1 ≤ n) (n1 : n ≤ 2000) (hl : len ≤ 60) :
    Calls Try.prog 3 #[.int .i64 n, .slice a0 len cap0] w fun e w' => e = .returned (.bool true) ∧ Below w.heap.size w w' := by
  have HACT := Lib.hid hacts
  have g1 : decide ((n : Int) < 1) = false := decide_eq_false (by omega)
  have g2 : decide (2000 < (n : Int)) = false := decide_eq_false (by omega)
  have g3 : decide (60 < (len : Int)) = false := decide_eq_false (by omega)
  clear hacts
  go_enter Try.func3, Try.ntmps3
  go_wp2_with fail
  refine (awake_any _).mono ?_
  rintro e w1 ⟨rfl, hB⟩
  have s1 := hB.size
  have HB := Lib.hid hB
  clear hB
  go_wp2_with fail
  refine (made_in n w1 (by omega) (by omega)).mono ?_
  rintro e w2 ⟨s, q, rfl, hn, hR, hQ, l1, l2, l3, l4, l5, l6, hb⟩
  subst hn
  have HBO : Hid (Both w s q none4 w2) := ⟨hR, hQ, onB' HB.out hb, by omega, by omega, by omega, l1, l2, l3⟩
  clear hR hQ hb HB s1 l1 l2 l3 l4 l5 l6
  go_wp2_with fail
  go_loopw [9] (fun s9 wr => ∃ (i : Nat) (R : Rows), i ≤ len ∧ R.all.length ≤ i ∧ s9 = .int .i64 i ∧ Both w s q R wr) (fun s9 _ => len - (intOf s9).toNat)
  case atStart => exact ⟨0, none4, Nat.zero_le _, Nat.zero_le _, rfl, HBO.out⟩
  case round =>
    clear HBO
    obtain ⟨i, R, hi, hRl, rfl, hBO⟩ := hrel
    obtain ⟨f1, f2, f3, f4⟩ := hBO.fit
    have HF := Lib.hid (And.intro f1 (And.intro f2 (And.intro f3 f4)))
    have HBO := Lib.hid hBO
    clear hBO f1 f2 f3 f4
    by_cases hlt : i < len
    · obtain ⟨b, off, rfl, hbl, K, A, hcell⟩ := HACT.out (by omega)
      obtain ⟨c0, c1⟩ := hcell i hlt
      replace c0 := (HBO.out.below.cell (p := ⟨b, off + i * 2, none⟩) hbl).trans c0
      replace c1 := (HBO.out.below.cell (p := ⟨b, off + i * 2 + 1, none⟩) hbl).trans c1
      clear hcell
      generalize K i = K at c0
      generalize A i = N at c1
      have hlt' : (i : Int) < (len : Int) := by omega
      go_wp2_with fail
      refine (law_right wr q s.n R HBO.out.ref (by omega) K N HF.out.2.2.2).mono ?_
      rintro e w3 ⟨rb, rfl, hr, hb⟩
      have HBO3 := Lib.hid (HBO.out.later hb)
      have HRT := Lib.hid hr
      replace c0 := later' hb c0
      replace c1 := later' hb c1
      clear hr hb HBO
      cases rb with
      | false =>
        go_wp2_with fail
        exact ⟨⟨i + 1, R, by omega, by omega, by go_num, HBO3.out⟩, by simp [intOf]; omega⟩
      | true =>
        go_wp2_with fail
        refine (did_any s q R w3 HBO3.out.ring HBO3.out.ref K N HF.out.2.2.1 (by omega) (fun k0 hg => ?fit)).mono ?_
        case fit =>
          have := HF.out.2.1
          obtain ⟨h1, h2⟩ := hg
          refine ⟨fun x hx => ?_, List.pairwise_cons.2 ⟨fun y hy => ?_, HF.out.1.far⟩⟩
          · rcases List.mem_cons.1 hx with rfl | hx
            · exact ⟨h1, h2⟩
            · exact HF.out.1.rng x hx
          · have := HRT.out trivial k0 (by omega) (by omega) y hy
            omega
        rintro e w4 ⟨rfl, hR, ht⟩
        have hcb : b ≠ s.r ∧ b ≠ s.p ∧ b ≠ s.d := ⟨by have := HBO3.out.r0; omega, by have := HBO3.out.p0; omega, by have := HBO3.out.d0; omega⟩
        replace c0 := ht.cell c0 hcb.1 hcb.2.1 hcb.2.2
        replace c1 := ht.cell c1 hcb.1 hcb.2.1 hcb.2.2
        have hdo := fun W hW => rdo_any W q s.n R hW K N HF.out.2.2.1 HF.out.2.1 (by omega)
        have hal := after_len s.n K N R
        have hQ4 := HBO3.out.ref.turn ht HBO3.out.rq HBO3.out.pq HBO3.out.dq
        have hB4 := HBO3.out.below.trans (ht.below HBO3.out.r0 HBO3.out.p0 HBO3.out.d0 HBO3.out.below.size)
        have lq4 := hQ4.lq
        unfold DoSaid told at hdo
        unfold told
        generalize tellC K R = tc at *
        generalize tellB K R = tb at *
        generalize tellE s.n K N R = te at *
        generalize after s.n K N R = R' at *
        have hb4 : Below w4.heap.size w4 (w4.alloc (.cells #[.int .i64 tc, .bool tb, .int .i64 te] 33)) := (Below.refl _ _).alloc (Nat.le_refl _) _
        have hk9 : Keep w4.heap.size b (off + i * 2) K N tc tb te (w4.alloc (.cells #[.int .i64 tc, .bool tb, .int .i64 te] 33)) := ⟨by simp [go_sem], by simp [go_sem], by simp [go_sem], later' hb4 c0, later' hb4 c1⟩
        have HH := Lib.hid (And.intro (hR.later hb4) (And.intro (hQ4.later hb4) (And.intro (onB' hB4 hb4) (And.intro HBO3.out.rq (And.intro HBO3.out.pq (And.intro HBO3.out.dq (And.intro HBO3.out.r0 (And.intro HBO3.out.p0 HBO3.out.d0))))))))
        have HDO := Lib.hid hdo
        have hqt : w4.heap.size ≠ q := by omega
        have hqb' := hcb
        have hqt' : w4.heap.size ≠ s.r ∧ w4.heap.size ≠ s.p ∧ w4.heap.size ≠ s.d := ⟨by have := HBO3.out.rq; omega, by have := HBO3.out.pq; omega, by have := HBO3.out.dq; omega⟩
        have hqb : b ≠ q := by have := HBO3.out.r0; have := HBO3.out.rq; omega
        clear hR ht hcb HRT hdo hQ4 hB4 c0 c1 HBO3 HF lq4
        have he1 := eq_told
        have he2 := eqIn_four
        go_upto_region 13 with fail
        generalize (w4.alloc (.cells #[.int .i64 tc, .bool tb, .int .i64 te] 33)) = x4 at *
        generalize w4.heap.size = tq at *
        clear hb4
        have hdr : Below x4.heap.size x4 x4.drew := (Below.refl _ _).drew
        replace HH := Lib.hid (And.intro (HH.out.1.later hdr) (And.intro (HH.out.2.1.later hdr) (And.intro (onB' HH.out.2.2.1 hdr) HH.out.2.2.2)))
        replace hk9 := hk9.later hdr
        clear hdr
        refine wp_region_held_drew (S := fun W' => W'.cell? ⟨tq, 0, none⟩ = some (.int .i64 tc) ∧ W'.cell? ⟨tq, 1, none⟩ = some (.bool tb) ∧ W'.cell? ⟨tq, 2, none⟩ = some (.int .i64 te) ∧ W'.cell? ⟨b, off + i * 2, none⟩ = some (.int .i64 K) ∧ W'.cell? ⟨b, off + i * 2 + 1, none⟩ = some (.int .i64 N)) (by kernel_rfl) hk9 (fun hHeld => ?_)
        refine wpAnyH_take (i := 0) (oi := { dst := some 53, op := Op.load 33 (Operand.tmp 10), type := 33, pos := "law.go:87", after := #[], guard := none }) (v := ?_) rfl (by kernel_rfl) (by kernel_rfl) (by kernel_rfl) (fun _ _ _ h => h) (Or.inl ⟨by rfl, ?_⟩) (by assumption) ?_
        rotate_left
        · intro w hSw
          try dsimp only at hSw
          go_simp <;> with_reducible rfl
        try simp only [Act.put, List.setIfInBounds_toArray, List.set_cons_zero, List.set_cons_succ]
        refine wpAnyH_take (i := 1) (oi := { dst := some 54, op := Op.move (Operand.tmp 7), type := 26, pos := "law.go:87", after := #[], guard := none }) (v := ?_) rfl (by kernel_rfl) (by kernel_rfl) (by kernel_rfl) (fun _ _ _ h => h) (Or.inl ⟨by rfl, ?_⟩) (by assumption) ?_
        rotate_left
        · intro w hSw
          try dsimp only at hSw
          go_simp <;> with_reducible rfl
        try simp only [Act.put, List.setIfInBounds_toArray, List.set_cons_zero, List.set_cons_succ]
        refine wpAnyH_take (i := 2) (oi := { dst := some 55, op := Op.move (Operand.tmp 1), type := 22, pos := "law.go:87", after := #[], guard := none }) (v := ?_) rfl (by kernel_rfl) (by kernel_rfl) (by kernel_rfl) (fun _ _ _ h => h) (Or.inl ⟨by rfl, ?_⟩) (by assumption) ?_
        rotate_left
        · intro w hSw
          try dsimp only at hSw
          go_simp <;> with_reducible rfl
        try simp only [Act.put, List.setIfInBounds_toArray, List.set_cons_zero, List.set_cons_succ]
        refine wpAnyH_take (i := 3) (oi := { dst := some 56, op := Op.move (Operand.tmp 9), type := 3, pos := "law.go:87", after := #[], guard := none }) (v := ?_) rfl (by kernel_rfl) (by kernel_rfl) (by kernel_rfl) (fun _ _ _ h => h) (Or.inl ⟨by rfl, ?_⟩) (by assumption) ?_
        rotate_left
        · intro w hSw
          try dsimp only at hSw
          go_simp <;> with_reducible rfl
        try simp only [Act.put, List.setIfInBounds_toArray, List.set_cons_zero, List.set_cons_succ]
        refine wpAnyH_take (i := 4) (oi := { dst := some 57, op := Op.indexAddr 22 (Operand.tmp 55) (Operand.tmp 56), type := 0, pos := "law.go:87", after := #[{ on := 2, ground := Ground.data }, { on := 3, ground := Ground.data }], guard := none }) (v := ?_) rfl (by kernel_rfl) (by kernel_rfl) (by kernel_rfl) (fun _ _ _ h => h) (Or.inl ⟨by rfl, ?_⟩) (by assumption) ?_
        rotate_left
        · intro w hSw
          try dsimp only at hSw
          go_simp <;> with_reducible rfl
        try simp only [Act.put, List.setIfInBounds_toArray, List.set_cons_zero, List.set_cons_succ]
        refine wpAnyH_take (i := 5) (oi := { dst := some 58, op := Op.load 31 (Operand.tmp 57), type := 31, pos := "law.go:87", after := #[{ on := 4, ground := Ground.data }], guard := none }) (v := ?_) rfl (by kernel_rfl) (by kernel_rfl) (by kernel_rfl) (fun _ _ _ h => h) (Or.inl ⟨by rfl, ?_⟩) (by assumption) ?_
        rotate_left
        · intro w hSw
          try dsimp only at hSw
          go_simp <;> with_reducible rfl
        try simp only [Act.put, List.setIfInBounds_toArray, List.set_cons_zero, List.set_cons_succ]
        refine wpAnyH_ready (rs := [6]) (by kernel_rfl) (by simp) ?_
        refine AllReadyH.cons (o := { dst := some 59, op := Op.call { callee := Callee.value (Operand.func 11), args := #[Operand.tmp 54, Operand.tmp 58], argTypes := #[26, 31] }, type := 33, pos := "law.go:87", after := #[{ on := 1, ground := Ground.data }, { on := 5, ground := Ground.data }], guard := none }) rfl (fun K hK => ?_) AllReadyH.nil
        go_simp
        refine (HDO.out _ HH.out.2.1).mono ?_; rintro e x5 ⟨rfl, hQ, ho⟩; have HBO5 : Hid (Both w s q R' x5) := Lib.hid (both_of HH.out hQ ho); have hk9 := hk9.one hqt hqb ho; obtain ⟨v0, v1, v2, v3, hlaid⟩ := HBO5.out.laid; have p0 := hlaid.c0; have p1 := hlaid.c1; have p2 := hlaid.c2; have p3 := hlaid.c3; have HL := Lib.hid hlaid; clear hQ ho hlaid HH HDO
        go_wp2_with fail
        refine hK.out _ _ (hk9) (fun hHeld => ?_)
        clear hK K
        try simp only [Act.put, List.setIfInBounds_toArray, List.set_cons_zero, List.set_cons_succ]
        refine wpAnyH_narrow (S' := fun W' => W'.cell? ⟨tq, 0, none⟩ = some (.int .i64 tc) ∧ W'.cell? ⟨tq, 1, none⟩ = some (.bool tb) ∧ W'.cell? ⟨tq, 2, none⟩ = some (.int .i64 te) ∧ W'.cell? ⟨b, off + i * 2, none⟩ = some (.int .i64 K) ∧ W'.cell? ⟨b, off + i * 2 + 1, none⟩ = some (.int .i64 N) ∧ W'.cell? ⟨q, 0, none⟩ = some v0 ∧ W'.cell? ⟨q, 1, none⟩ = some v1 ∧ W'.cell? ⟨q, 2, none⟩ = some v2 ∧ W'.cell? ⟨q, 3, none⟩ = some v3) (fun _ h => ⟨h.1, h.2.1, h.2.2.1, h.2.2.2.1, h.2.2.2.2.1⟩) _ _ _ _ ?_
        replace hHeld := And.intro hk9.1 (And.intro hk9.2.1 (And.intro hk9.2.2.1 (And.intro hk9.2.2.2.1 (And.intro hk9.2.2.2.2 (And.intro p0 (And.intro p1 (And.intro p2 p3)))))))
        refine wpAnyH_take (i := 7) (oi := { dst := some 60, op := Op.binOp BinOp.neq 33 (Operand.tmp 53) (Operand.tmp 59) 33, type := 4, pos := "law.go:87", after := #[{ on := 0, ground := Ground.data }, { on := 6, ground := Ground.data }], guard := none }) (v := ?_) rfl (by kernel_rfl) (by kernel_rfl) (by kernel_rfl) (fun _ _ _ h => h) (Or.inl ⟨by rfl, ?_⟩) (by assumption) ?_
        rotate_left
        · intro w hSw
          try dsimp only at hSw
          go_simp <;> with_reducible rfl
        try simp only [Act.put, List.setIfInBounds_toArray, List.set_cons_zero, List.set_cons_succ]
        refine wpAnyH_take (i := 8) (oi := { dst := some 61, op := Op.move (Operand.tmp 60), type := 4, pos := "law.go:87", after := #[{ on := 7, ground := Ground.data }, { on := 6, ground := Ground.chain }], guard := none }) (v := ?_) rfl (by kernel_rfl) (by kernel_rfl) (by kernel_rfl) (fun _ _ _ h => h) (Or.inl ⟨by rfl, ?_⟩) (by assumption) ?_
        rotate_left
        · intro w hSw
          try dsimp only at hSw
          go_simp <;> with_reducible rfl
        try simp only [Act.put, List.setIfInBounds_toArray, List.set_cons_zero, List.set_cons_succ]
        refine wpAnyH_take (i := 9) (oi := { dst := some 62, op := Op.move (Operand.tmp 6), type := 25, pos := "law.go:87", after := #[{ on := 8, ground := Ground.guard }], guard := some (8, false) }) (v := ?_) rfl (by kernel_rfl) (by kernel_rfl) (by kernel_rfl) (fun _ _ _ h => h) (Or.inl ⟨by rfl, ?_⟩) (by assumption) ?_
        rotate_left
        · intro w hSw
          try dsimp only at hSw
          go_simp <;> with_reducible rfl
        try simp only [Act.put, List.setIfInBounds_toArray, List.set_cons_zero, List.set_cons_succ]
        refine wpAnyH_take (i := 11) (oi := { dst := some 64, op := Op.move (Operand.tmp 7), type := 26, pos := "law.go:87", after := #[{ on := 8, ground := Ground.guard }], guard := some (8, false) }) (v := ?_) rfl (by kernel_rfl) (by kernel_rfl) (by kernel_rfl) (fun _ _ _ h => h) (Or.inl ⟨by rfl, ?_⟩) (by assumption) ?_
        rotate_left
        · intro w hSw
          try dsimp only at hSw
          go_simp <;> with_reducible rfl
        try simp only [Act.put, List.setIfInBounds_toArray, List.set_cons_zero, List.set_cons_succ]
        refine wpAnyH_take (i := 12) (oi := { dst := some 65, op := Op.nilCheck (Operand.tmp 64), type := 0, pos := "law.go:87", after := #[{ on := 11, ground := Ground.data }, { on := 8, ground := Ground.guard }], guard := some (8, false) }) (v := ?_) rfl (by kernel_rfl) (by kernel_rfl) (by kernel_rfl) (fun _ _ _ h => h) (Or.inl ⟨by rfl, ?_⟩) (by assumption) ?_
        rotate_left
        · intro w hSw
          try dsimp only at hSw
          go_simp <;> with_reducible rfl
        try simp only [Act.put, List.setIfInBounds_toArray, List.set_cons_zero, List.set_cons_succ]
        refine wpAnyH_take (i := 13) (oi := { dst := some 66, op := Op.fieldAddr 42 (Operand.tmp 65) 0, type := 0, pos := "law.go:87", after := #[{ on := 12, ground := Ground.data }, { on := 8, ground := Ground.guard }], guard := some (8, false) }) (v := ?_) rfl (by kernel_rfl) (by kernel_rfl) (by kernel_rfl) (fun _ _ _ h => h) (Or.inl ⟨by rfl, ?_⟩) (by assumption) ?_
        rotate_left
        · intro w hSw
          try dsimp only at hSw
          go_simp <;> with_reducible rfl
        try simp only [Act.put, List.setIfInBounds_toArray, List.set_cons_zero, List.set_cons_succ]
        refine wpAnyH_take (i := 14) (oi := { dst := some 67, op := Op.load 39 (Operand.tmp 66), type := 39, pos := "law.go:87", after := #[{ on := 13, ground := Ground.data }, { on := 8, ground := Ground.guard }], guard := some (8, false) }) (v := ?_) rfl (by kernel_rfl) (by kernel_rfl) (by kernel_rfl) (fun _ _ _ h => h) (Or.inl ⟨by rfl, ?_⟩) (by assumption) ?_
        rotate_left
        · intro w hSw
          try dsimp only at hSw
          go_simp <;> with_reducible rfl
        try simp only [Act.put, List.setIfInBounds_toArray, List.set_cons_zero, List.set_cons_succ]
        refine wpAnyH_ready (rs := [10]) (by kernel_rfl) (by simp) ?_
        refine AllReadyH.cons (o := { dst := some 63, op := Op.call { callee := Callee.value (Operand.func 13), args := #[Operand.tmp 62], argTypes := #[25] }, type := 39, pos := "law.go:87", after := #[{ on := 9, ground := Ground.data }, { on := 8, ground := Ground.chain }, { on := 8, ground := Ground.guard }], guard := some (8, false) }) rfl (fun K hK => ?_) AllReadyH.nil
        go_simp
        refine (ring_list s R' _ HBO5.out.ring).mono ?_; rintro e x6 ⟨y0, y1, y2, y3, rfl, r0, r1, r2, r3, hR, ht⟩; have HF6 := Lib.hid (show Fours x6 _ _ y0 y1 y2 y3 R' from ⟨r0, r1, r2, r3⟩); have hk9 := hk9.turn HBO5.out ht hqt' hqb'; have HL := Lib.hid (HL.out.turn HBO5.out ht); have HBO6 := Lib.hid (HBO5.out.turn hR ht); have p0 := HL.out.c0; have p1 := HL.out.c1; have p2 := HL.out.c2; have p3 := HL.out.c3; clear hR ht r0 r1 r2 r3
        go_wp2_with fail
        refine hK.out _ _ (show _ from ⟨hk9.1, hk9.2.1, hk9.2.2.1, hk9.2.2.2.1, hk9.2.2.2.2, p0, p1, p2, p3⟩) (fun hHeld => ?_)
        clear hK K
        try simp only [Act.put, List.setIfInBounds_toArray, List.set_cons_zero, List.set_cons_succ]
        refine wpAnyH_ready (rs := [15]) (by kernel_rfl) (by simp) ?_
        refine AllReadyH.cons (o := { dst := some 68, op := Op.call { callee := Callee.value (Operand.func 12), args := #[Operand.tmp 63, Operand.tmp 67], argTypes := #[39, 39] }, type := 4, pos := "law.go:87", after := #[{ on := 10, ground := Ground.data }, { on := 14, ground := Ground.data }, { on := 10, ground := Ground.chain }, { on := 8, ground := Ground.guard }], guard := some (8, false) }) rfl (fun K hK => ?_) AllReadyH.nil
        go_simp
        obtain ⟨hi9, hi9a, hi9b⟩ := HL.out.row; refine (same_any y0 y1 y2 y3 v0 v1 v2 v3 R' _ _ _ _ _ HF6.out hi9b (by omega) (Nat.le_refl _) hi9a).mono ?_; rintro e x7 ⟨rfl, hb⟩; have hk9 := hk9.later hb; have HL := Lib.hid (HL.out.later hb); have HBO7 := Lib.hid (HBO6.out.later hb); have p0 := HL.out.c0; have p1 := HL.out.c1; have p2 := HL.out.c2; have p3 := HL.out.c3; clear hb hi9a hi9b
        go_wp2_with fail
        refine hK.out _ _ (show _ from ⟨hk9.1, hk9.2.1, hk9.2.2.1, hk9.2.2.2.1, hk9.2.2.2.2, p0, p1, p2, p3⟩) (fun hHeld => ?_)
        clear hK K
        try simp only [Act.put, List.setIfInBounds_toArray, List.set_cons_zero, List.set_cons_succ]
        refine wpAnyH_take (i := 16) (oi := { dst := some 69, op := Op.unOp UnOp.not 4 (Operand.tmp 68), type := 4, pos := "law.go:87", after := #[{ on := 15, ground := Ground.data }, { on := 8, ground := Ground.guard }], guard := some (8, false) }) (v := ?_) rfl (by kernel_rfl) (by kernel_rfl) (by kernel_rfl) (fun _ _ _ h => h) (Or.inl ⟨by rfl, ?_⟩) (by assumption) ?_
        rotate_left
        · intro w hSw
          try dsimp only at hSw
          go_simp <;> with_reducible rfl
        try simp only [Act.put, List.setIfInBounds_toArray, List.set_cons_zero, List.set_cons_succ]
        refine wpAnyH_take (i := 17) (oi := { dst := some 70, op := Op.pick (Operand.tmp 61) (Operand.const (Value.bool true)) (Operand.tmp 69), type := 4, pos := "law.go:87", after := #[{ on := 8, ground := Ground.data }, { on := 16, ground := Ground.data }], guard := none }) (v := ?_) rfl (by kernel_rfl) (by kernel_rfl) (by kernel_rfl) (fun _ _ _ h => h) (Or.inl ⟨by rfl, ?_⟩) (by assumption) ?_
        rotate_left
        · intro w hSw
          try dsimp only at hSw
          go_simp <;> with_reducible rfl
        try simp only [Act.put, List.setIfInBounds_toArray, List.set_cons_zero, List.set_cons_succ]
        refine wpAnyH_take (i := 18) (oi := { dst := some 71, op := Op.move (Operand.tmp 70), type := 4, pos := "law.go:87", after := #[{ on := 17, ground := Ground.data }, { on := 15, ground := Ground.chain }], guard := none }) (v := ?_) rfl (by kernel_rfl) (by kernel_rfl) (by kernel_rfl) (fun _ _ _ h => h) (Or.inl ⟨by rfl, ?_⟩) (by assumption) ?_
        rotate_left
        · intro w hSw
          try dsimp only at hSw
          go_simp <;> with_reducible rfl
        try simp only [Act.put, List.setIfInBounds_toArray, List.set_cons_zero, List.set_cons_succ]
        refine wpAnyH_take (i := 19) (oi := { dst := some 72, op := Op.move (Operand.tmp 6), type := 25, pos := "law.go:87", after := #[{ on := 18, ground := Ground.guard }], guard := some (18, false) }) (v := ?_) rfl (by kernel_rfl) (by kernel_rfl) (by kernel_rfl) (fun _ _ _ h => h) (Or.inl ⟨by rfl, ?_⟩) (by assumption) ?_
        rotate_left
        · intro w hSw
          try dsimp only at hSw
          go_simp <;> with_reducible rfl
        try simp only [Act.put, List.setIfInBounds_toArray, List.set_cons_zero, List.set_cons_succ]
        refine wpAnyH_take (i := 21) (oi := { dst := some 74, op := Op.move (Operand.tmp 7), type := 26, pos := "law.go:87", after := #[{ on := 18, ground := Ground.guard }], guard := some (18, false) }) (v := ?_) rfl (by kernel_rfl) (by kernel_rfl) (by kernel_rfl) (fun _ _ _ h => h) (Or.inl ⟨by rfl, ?_⟩) (by assumption) ?_
        rotate_left
        · intro w hSw
          try dsimp only at hSw
          go_simp <;> with_reducible rfl
        try simp only [Act.put, List.setIfInBounds_toArray, List.set_cons_zero, List.set_cons_succ]
        refine wpAnyH_take (i := 22) (oi := { dst := some 75, op := Op.nilCheck (Operand.tmp 74), type := 0, pos := "law.go:87", after := #[{ on := 21, ground := Ground.data }, { on := 18, ground := Ground.guard }], guard := some (18, false) }) (v := ?_) rfl (by kernel_rfl) (by kernel_rfl) (by kernel_rfl) (fun _ _ _ h => h) (Or.inl ⟨by rfl, ?_⟩) (by assumption) ?_
        rotate_left
        · intro w hSw
          try dsimp only at hSw
          go_simp <;> with_reducible rfl
        try simp only [Act.put, List.setIfInBounds_toArray, List.set_cons_zero, List.set_cons_succ]
        refine wpAnyH_take (i := 23) (oi := { dst := some 76, op := Op.fieldAddr 42 (Operand.tmp 75) 0, type := 0, pos := "law.go:87", after := #[{ on := 22, ground := Ground.data }, { on := 18, ground := Ground.guard }], guard := some (18, false) }) (v := ?_) rfl (by kernel_rfl) (by kernel_rfl) (by kernel_rfl) (fun _ _ _ h => h) (Or.inl ⟨by rfl, ?_⟩) (by assumption) ?_
        rotate_left
        · intro w hSw
          try dsimp only at hSw
          go_simp <;> with_reducible rfl
        try simp only [Act.put, List.setIfInBounds_toArray, List.set_cons_zero, List.set_cons_succ]
        refine wpAnyH_take (i := 24) (oi := { dst := some 77, op := Op.load 39 (Operand.tmp 76), type := 39, pos := "law.go:87", after := #[{ on := 23, ground := Ground.data }, { on := 18, ground := Ground.guard }], guard := some (18, false) }) (v := ?_) rfl (by kernel_rfl) (by kernel_rfl) (by kernel_rfl) (fun _ _ _ h => h) (Or.inl ⟨by rfl, ?_⟩) (by assumption) ?_
        rotate_left
        · intro w hSw
          try dsimp only at hSw
          go_simp <;> with_reducible rfl
        try simp only [Act.put, List.setIfInBounds_toArray, List.set_cons_zero, List.set_cons_succ]
        refine wpAnyH_ready (rs := [20]) (by kernel_rfl) (by simp) ?_
        refine AllReadyH.cons (o := { dst := some 73, op := Op.call { callee := Callee.value (Operand.func 14), args := #[Operand.tmp 72], argTypes := #[25] }, type := 43, pos := "law.go:87", after := #[{ on := 19, ground := Ground.data }, { on := 18, ground := Ground.chain }, { on := 18, ground := Ground.guard }], guard := some (18, false) }) rfl (fun K hK => ?_) AllReadyH.nil
        go_simp
        refine (ring_counts s R' _ HBO7.out.ring).mono ?_; rintro e x8 ⟨rfl, hb⟩; have hk9 := hk9.later hb; have HL := Lib.hid (HL.out.later hb); have HBO8 := Lib.hid (HBO7.out.later hb); have p0 := HL.out.c0; have p1 := HL.out.c1; have p2 := HL.out.c2; have p3 := HL.out.c3; clear hb
        go_wp2_with fail
        refine hK.out _ _ (show _ from ⟨hk9.1, hk9.2.1, hk9.2.2.1, hk9.2.2.2.1, hk9.2.2.2.2, p0, p1, p2, p3⟩) (fun hHeld => ?_)
        clear hK K
        try simp only [Act.put, List.setIfInBounds_toArray, List.set_cons_zero, List.set_cons_succ]
        refine wpAnyH_ready (rs := [25]) (by kernel_rfl) (by simp) ?_
        refine AllReadyH.cons (o := { dst := some 78, op := Op.call { callee := Callee.value (Operand.func 15), args := #[Operand.tmp 77], argTypes := #[39] }, type := 43, pos := "law.go:87", after := #[{ on := 24, ground := Ground.data }, { on := 20, ground := Ground.chain }, { on := 18, ground := Ground.guard }], guard := some (18, false) }) rfl (fun K hK => ?_) AllReadyH.nil
        go_simp
        obtain ⟨hi9, hi9a, hi9b⟩ := HL.out.row; refine (law_counts v0 v1 v2 v3 R' _ _ _ hi9b).mono ?_; rintro e x9 ⟨rfl, hb⟩; have hk9 := hk9.later hb; have HL := Lib.hid (HL.out.later hb); have HBO9 := Lib.hid (HBO8.out.later hb); have p0 := HL.out.c0; have p1 := HL.out.c1; have p2 := HL.out.c2; have p3 := HL.out.c3; clear hb hi9a hi9b
        go_wp2_with fail
        refine hK.out _ _ (show _ from ⟨hk9.1, hk9.2.1, hk9.2.2.1, hk9.2.2.2.1, hk9.2.2.2.2, p0, p1, p2, p3⟩) (fun hHeld => ?_)
        clear hK K
        try simp only [Act.put, List.setIfInBounds_toArray, List.set_cons_zero, List.set_cons_succ]
        refine wpAnyH_take (i := 26) (oi := { dst := some 79, op := Op.binOp BinOp.neq 43 (Operand.tmp 73) (Operand.tmp 78) 43, type := 4, pos := "law.go:87", after := #[{ on := 20, ground := Ground.data }, { on := 25, ground := Ground.data }, { on := 18, ground := Ground.guard }], guard := some (18, false) }) (v := ?_) rfl (by kernel_rfl) (by kernel_rfl) (by kernel_rfl) (fun _ _ _ h => h) (Or.inl ⟨by rfl, ?_⟩) (by assumption) ?_
        rotate_left
        · intro w hSw
          try dsimp only at hSw
          go_simp <;> with_reducible rfl
        try simp only [Act.put, List.setIfInBounds_toArray, List.set_cons_zero, List.set_cons_succ]
        refine wpAnyH_take (i := 27) (oi := { dst := some 80, op := Op.pick (Operand.tmp 71) (Operand.const (Value.bool true)) (Operand.tmp 79), type := 4, pos := "law.go:87", after := #[{ on := 18, ground := Ground.data }, { on := 26, ground := Ground.data }], guard := none }) (v := ?_) rfl (by kernel_rfl) (by kernel_rfl) (by kernel_rfl) (fun _ _ _ h => h) (Or.inl ⟨by rfl, ?_⟩) (by assumption) ?_
        rotate_left
        · intro w hSw
          try dsimp only at hSw
          go_simp <;> with_reducible rfl
        try simp only [Act.put, List.setIfInBounds_toArray, List.set_cons_zero, List.set_cons_succ]
        refine wpAnyH_take (i := 28) (oi := { dst := some 81, op := Op.move (Operand.tmp 80), type := 4, pos := "law.go:87", after := #[{ on := 27, ground := Ground.data }, { on := 25, ground := Ground.chain }], guard := none }) (v := ?_) rfl (by kernel_rfl) (by kernel_rfl) (by kernel_rfl) (fun _ _ _ h => h) (Or.inl ⟨by rfl, ?_⟩) (by assumption) ?_
        rotate_left
        · intro w hSw
          try dsimp only at hSw
          go_simp <;> with_reducible rfl
        try simp only [Act.put, List.setIfInBounds_toArray, List.set_cons_zero, List.set_cons_succ]
        refine wpAnyH_take (i := 29) (oi := { dst := some 82, op := Op.move (Operand.tmp 5), type := 24, pos := "law.go:87", after := #[{ on := 28, ground := Ground.guard }], guard := some (28, false) }) (v := ?_) rfl (by kernel_rfl) (by kernel_rfl) (by kernel_rfl) (fun _ _ _ h => h) (Or.inl ⟨by rfl, ?_⟩) (by assumption) ?_
        rotate_left
        · intro w hSw
          try dsimp only at hSw
          go_simp <;> with_reducible rfl
        try simp only [Act.put, List.setIfInBounds_toArray, List.set_cons_zero, List.set_cons_succ]
        refine wpAnyH_take (i := 31) (oi := { dst := some 84, op := Op.move (Operand.tmp 7), type := 26, pos := "law.go:87", after := #[{ on := 28, ground := Ground.guard }], guard := some (28, false) }) (v := ?_) rfl (by kernel_rfl) (by kernel_rfl) (by kernel_rfl) (fun _ _ _ h => h) (Or.inl ⟨by rfl, ?_⟩) (by assumption) ?_
        rotate_left
        · intro w hSw
          try dsimp only at hSw
          go_simp <;> with_reducible rfl
        try simp only [Act.put, List.setIfInBounds_toArray, List.set_cons_zero, List.set_cons_succ]
        refine wpAnyH_ready (rs := [30]) (by kernel_rfl) (by simp) ?_
        refine AllReadyH.cons (o := { dst := some 83, op := Op.call { callee := Callee.value (Operand.func 17), args := #[Operand.tmp 82], argTypes := #[24] }, type := 47, pos := "law.go:87", after := #[{ on := 29, ground := Ground.data }, { on := 28, ground := Ground.chain }, { on := 28, ground := Ground.guard }], guard := some (28, false) }) rfl (fun K hK => ?_) AllReadyH.nil
        go_simp
        obtain ⟨C9, F9, D9, hL9, hI9⟩ := HBO9.out.ring; obtain ⟨u9, hu9⟩ := hL9.words; refine (words_any s.p s.d s.n D9 u9 _ hu9 (by omega) (by omega)).mono ?_; rintro e x10 ⟨cw, capw, rfl, hT, hle, hb⟩; have HT := Lib.hid hT; have HI := Lib.hid (And.intro hI9.cyc hI9.fit); have hk9 := hk9.later hb; have HL := Lib.hid (HL.out.later hb); have HBO10 := Lib.hid (HBO9.out.later hb); clear hb hT hL9 hI9 hu9 hle
        go_wp2_with fail
        refine hK.out _ _ (show _ from ⟨hk9.1, hk9.2.1, hk9.2.2.1, hk9.2.2.2.1, hk9.2.2.2.2, HL.out.c0, HL.out.c1, HL.out.c2, HL.out.c3⟩) (fun hHeld => ?_)
        clear hK K
        try simp only [Act.put, List.setIfInBounds_toArray, List.set_cons_zero, List.set_cons_succ]
        refine wpAnyH_ready (rs := [32]) (by kernel_rfl) (by simp) ?_
        refine AllReadyH.cons (o := { dst := some 85, op := Op.call { callee := Callee.value (Operand.func 18), args := #[Operand.tmp 84], argTypes := #[26] }, type := 37, pos := "law.go:87", after := #[{ on := 31, ground := Ground.data }, { on := 30, ground := Ground.chain }, { on := 28, ground := Ground.guard }], guard := some (28, false) }) rfl (fun K hK => ?_) AllReadyH.nil
        go_simp
        refine (ref_all _ q s.n R' HBO10.out.ref (by omega)).mono ?_; rintro e x11 ⟨va, rfl, hrow, hb⟩; have HRW := Lib.hid hrow; have HT := Lib.hid (HT.out.later hb); have hk9 := hk9.later hb; have HL := Lib.hid (HL.out.later hb); have HBO11 := Lib.hid (HBO10.out.later hb); clear hb hrow
        go_wp2_with fail
        refine hK.out _ _ (show _ from ⟨hk9.1, hk9.2.1, hk9.2.2.1, hk9.2.2.2.1, hk9.2.2.2.2, HL.out.c0, HL.out.c1, HL.out.c2, HL.out.c3⟩) (fun hHeld => ?_)
        clear hK K
        try simp only [Act.put, List.setIfInBounds_toArray, List.set_cons_zero, List.set_cons_succ]
        refine wpAnyH_ready (rs := [33]) (by kernel_rfl) (by simp) ?_
        refine AllReadyH.cons (o := { dst := some 86, op := Op.call { callee := Callee.value (Operand.func 16), args := #[Operand.tmp 83, Operand.tmp 85], argTypes := #[47, 37] }, type := 4, pos := "law.go:87", after := #[{ on := 30, ground := Ground.data }, { on := 32, ground := Ground.data }, { on := 32, ground := Ground.chain }, { on := 28, ground := Ground.guard }], guard := some (28, false) }) rfl (fun K hK => ?_) AllReadyH.nil
        go_simp
        refine (ref_linked _ cw s.n capw D9 HT.out (by omega) va R'.all _ _ HRW.out (by omega) HI.out.1 HI.out.2).mono ?_; rintro e x12 ⟨rfl, hb⟩; have hk9 := hk9.later hb; have HL := Lib.hid (HL.out.later hb); have HBO12 := Lib.hid (HBO11.out.later hb); clear hb
        go_wp2_with fail
        refine hK.out _ _ (show _ from ⟨hk9.1, hk9.2.1, hk9.2.2.1, hk9.2.2.2.1, hk9.2.2.2.2, HL.out.c0, HL.out.c1, HL.out.c2, HL.out.c3⟩) (fun hHeld => ?_)
        clear hK K
        try simp only [Act.put, List.setIfInBounds_toArray, List.set_cons_zero, List.set_cons_succ]
        refine wpAnyH_take (i := 34) (oi := { dst := some 87, op := Op.unOp UnOp.not 4 (Operand.tmp 86), type := 4, pos := "law.go:87", after := #[{ on := 33, ground := Ground.data }, { on := 28, ground := Ground.guard }], guard := some (28, false) }) (v := ?_) rfl (by kernel_rfl) (by kernel_rfl) (by kernel_rfl) (fun _ _ _ h => h) (Or.inl ⟨by rfl, ?_⟩) (by assumption) ?_
        rotate_left
        · intro w hSw
          try dsimp only at hSw
          go_simp <;> with_reducible rfl
        try simp only [Act.put, List.setIfInBounds_toArray, List.set_cons_zero, List.set_cons_succ]
        refine wpAnyH_take (i := 35) (oi := { dst := some 88, op := Op.pick (Operand.tmp 81) (Operand.const (Value.bool true)) (Operand.tmp 87), type := 4, pos := "law.go:87", after := #[{ on := 28, ground := Ground.data }, { on := 34, ground := Ground.data }], guard := none }) (v := ?_) rfl (by kernel_rfl) (by kernel_rfl) (by kernel_rfl) (fun _ _ _ h => h) (Or.inl ⟨by rfl, ?_⟩) (by assumption) ?_
        rotate_left
        · intro w hSw
          try dsimp only at hSw
          go_simp <;> with_reducible rfl
        try simp only [Act.put, List.setIfInBounds_toArray, List.set_cons_zero, List.set_cons_succ]
        refine wpAnyH_done (by kernel_rfl) ?_ _
        go_wp2_with fail
        exact ⟨⟨i + 1, R', by omega, by omega, by go_num, HBO12.out⟩, by simp [intOf]; omega⟩
    · obtain rfl : i = len := by omega
      go_wp2_with fail
      have hdr : Below wr.heap.size wr wr.drew := (Below.refl _ _).drew
      have HBO5 := Lib.hid (HBO.out.later hdr)
      obtain ⟨v0, v1, v2, v3, hlaid⟩ := HBO5.out.laid
      have HL := Lib.hid hlaid
      clear HBO hdr hlaid HACT
      go_region_held3 (fun W' => (W'.cell? ⟨q, 0, none⟩ = some v0 ∧ W'.cell? ⟨q, 1, none⟩ = some v1 ∧ W'.cell? ⟨q, 2, none⟩ = some v2 ∧ W'.cell? ⟨q, 3, none⟩ = some v3))
        (exact ⟨HL.out.c0, HL.out.c1, HL.out.c2, HL.out.c3⟩)
        (first
          | (go_at_call 13; refine (ring_list s R _ HBO5.out.ring).mono ?_; rintro e x6 ⟨y0, y1, y2, y3, rfl, r0, r1, r2, r3, hR, ht⟩; have HF6 := Lib.hid (show Fours x6 _ _ y0 y1 y2 y3 R from ⟨r0, r1, r2, r3⟩); have HL := Lib.hid (HL.out.turn HBO5.out ht); have HBO6 := Lib.hid (HBO5.out.turn hR ht); clear hR ht r0 r1 r2 r3)
          | (go_at_call 12; obtain ⟨hi9, hi9a, hi9b⟩ := HL.out.row; refine (same_any y0 y1 y2 y3 v0 v1 v2 v3 R _ _ _ _ _ HF6.out hi9b (by omega) (Nat.le_refl _) hi9a).mono ?_; rintro e x7 ⟨rfl, hb⟩; have HL := Lib.hid (HL.out.later hb); have HBO7 := Lib.hid (HBO6.out.later hb); clear hb hi9a hi9b))
      go_wp2_with fail
      go_ret
      exact ⟨rfl, HBO7.out.below⟩

set_option maxHeartbeats 4000000 in
theorem plays_walk (n : Int) (a0 : Option Addr) (len cap : Nat) (w : World) (hacts : Acts w a0 len) (hlen : len ≤ 9223372036854775807) (_ : -9223372036854775808 ≤ n ∧ n ≤ 9223372036854775807) :
    Calls Try.prog 3 #[.int .i64 n, .slice a0 len cap] w fun e w' => e = .returned (.bool true) ∧ Below w.heap.size w w' := by
  by_cases hv : 1 ≤ n ∧ n ≤ 2000 ∧ len ≤ 60
  · obtain ⟨m, rfl⟩ : ∃ m : Nat, n = m := ⟨n.toNat, by omega⟩
    exact plays_in m a0 len cap w hacts (by omega) (by omega) hv.2.2
  · have hg : (decide (n < 1) || decide (2000 < n) || decide (60 < (len : Int))) = true := by
      simp
      omega
    clear hv hacts
    go_enter Try.func3, Try.ntmps3
    go_wp2_with fail
    refine (awake_any _).mono ?_
    rintro e w1 ⟨rfl, hB⟩
    have HB := Lib.hid hB
    clear hB
    by_cases g1 : n < 1
    · have g1' : decide (n < 1) = true := decide_eq_true g1
      go_wp2_with fail
      go_ret
      exact ⟨rfl, HB.out⟩
    · have g1' : decide (n < 1) = false := decide_eq_false g1
      by_cases g2 : 2000 < n
      · have g2' : decide (2000 < n) = true := decide_eq_true g2
        go_wp2_with fail
        go_ret
        exact ⟨rfl, HB.out⟩
      · have g2' : decide (2000 < n) = false := decide_eq_false g2
        have g3' : decide (60 < (len : Int)) = true := by
          rw [g1', g2'] at hg
          simpa using hg
        go_wp2_with fail
        go_ret
        exact ⟨rfl, HB.out⟩

end Go.Proofs.Ytcahdmnhdeofoaa
