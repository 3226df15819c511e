/- HeapRounds: its walk. -/
import Derived.Test.YtbjlpmjalidfkaaHpP
import Derived.Deep.RegionHeld3
namespace Go.Proofs.Ytbjlpmjalidfkaa
open Go.RowKit

/-- How many words an object of a size takes. -/
def rd (v : Nat → Int) (len : Nat) (size : Int) (i : Nat) : Int := if i < len then v i + 3 else size + 3
theorem rd_ge {v : Nat → Int} {len : Nat} {size : Int} {i : Nat} (h : Cls v len size i) : size + 3 ≤ rd v len size i := by
  unfold rd
  by_cases g : i < len
  · have := h.fits g
    rw [if_pos g]
    omega
  · rw [if_neg g]
    omega
theorem rise_le {v : Nat → Int} {len : Nat} (h : Rise v len) {i j : Nat} (hij : i ≤ j) (hj : j < len) : v i ≤ v j := by
  induction j with
  | zero => obtain rfl : i = 0 := by omega
            omega
  | succ j ih =>
    by_cases e : i = j + 1
    · subst e; omega
    · have h1 := ih (by omega) (by omega)
      have h2 := (h (j + 1) hj).1
      rw [prev_succ] at h2
      omega
theorem rd_mono {v : Nat → Int} {len : Nat} {size : Int} {i j : Nat} (hv : Rise v len) (h : Cls v len size i) (g : Cls v len (size + 1) j) : rd v len size i ≤ rd v len (size + 1) j := by
  have hij : i ≤ j := Nat.le_of_not_lt fun e => by
    have h1 := h.low j e
    have h2 := g.fits (by have := h.le; omega)
    omega
  unfold rd
  by_cases g1 : j < len
  · have := rise_le hv hij g1
    rw [if_pos (by omega), if_pos g1]
    omega
  · rw [if_neg g1]
    by_cases g2 : i < len
    · have h1 := g.low i (by have := g.le; omega)
      rw [if_pos g2]
      omega
    · rw [if_neg g2]
      omega
def RdSaid (r : Int) (w : World) (e : Ending) (w' : World) : Prop := e = .returned (.int .i64 r) ∧ Below w.heap.size w w'
theorem round_rd (x : HSpot) (T : Nat → Nat) (D : Nat → Int) (R : Nat → Rows) (top par : Int) (L : List (Int × Int)) (w : World) (h : HLies x T D R top par L w) (size : Int) (hs : 0 ≤ size ∧ size ≤ 100000) (i : Nat) (hC : Cls x.sz x.k size i) (hz : i < x.k → 1 ≤ x.sz i ∧ x.sz i ≤ 24) :
    Calls Try.prog 18 #[.pointer (some ⟨x.h, 0, none⟩), .int .i64 size] w (RdSaid (rd x.sz x.k size i) w) := round_any x T D R top par L w h size hs i hC hz
theorem rround_rd (W : World) (q : Nat) (a0 : Option Addr) (len cap : Nat) (v : Nat → Int) (h : RHeap W q a0 len cap) (hs : Sizes W a0 len v) (size : Int) (hz : 0 ≤ size ∧ size ≤ 100000) (i : Nat) (hC : Cls v len size i) (hl : len ≤ 100) (hv : ∀ i, i < len → 1 ≤ v i ∧ v i ≤ 24) :
    Calls Try.prog 20 #[.pointer (some ⟨q, 0, none⟩), .int .i64 size] W (RdSaid (rd v len size i) W) := by
  by_cases g : i < len
  · refine (rround_in W q a0 len cap v h hs size i hC hl g (hv i g)).mono ?_
    rintro e w2 ⟨rfl, rfl⟩
    exact ⟨by unfold rd; rw [if_pos g], Below.refl _ _⟩
  · have hi := hC.le
    obtain rfl : i = len := by omega
    refine (rround_out W q a0 i cap v h hs size hz hC hl).mono ?_
    rintro e w2 ⟨rfl, rfl⟩
    exact ⟨by unfold rd; rw [if_neg g], Below.refl _ _⟩

/-- A configuration, in its box. -/
def Cfg (b : Nat) (words large x2 x3 x4 x5 : Int) (a0 : Option Addr) (len cap : Nat) (W : World) : Prop :=
  W.cell? ⟨b, 0, none⟩ = some (.int .i64 words) ∧ W.cell? ⟨b, 1, none⟩ = some (.int .i64 large) ∧ W.cell? ⟨b, 2, none⟩ = some (.int .i64 x2) ∧ W.cell? ⟨b, 3, none⟩ = some (.int .i64 x3) ∧ W.cell? ⟨b, 4, none⟩ = some (.int .i64 x4) ∧ W.cell? ⟨b, 5, none⟩ = some (.int .i64 x5) ∧ W.cell? ⟨b, 6, none⟩ = some (.slice a0 len cap)
theorem Cfg.later {b : Nat} {words large x2 x3 x4 x5 : Int} {a0 : Option Addr} {len cap : Nat} {W W' : World} (h : Cfg b words large x2 x3 x4 x5 a0 len cap W) (hb : Below W.heap.size W W') : Cfg b words large x2 x3 x4 x5 a0 len cap W' :=
  ⟨later' hb h.1, later' hb h.2.1, later' hb h.2.2.1, later' hb h.2.2.2.1, later' hb h.2.2.2.2.1, later' hb h.2.2.2.2.2.1, later' hb h.2.2.2.2.2.2⟩

set_option maxHeartbeats 16000000 in
set_option maxRecDepth 100000 in
theorem rounds_walk (words large x2 x3 x4 x5 size : Int) (a0 : Option Addr) (len cap : Nat) (v : Nat → Int) (w : World) (hs : Sizes w a0 len v) :
    Calls Try.prog 4 #[.agg #[.int .i64 words, .int .i64 large, .int .i64 x2, .int .i64 x3, .int .i64 x4, .int .i64 x5, .slice a0 len cap], .int .i64 size] w fun e w' => e = .returned (.bool true) ∧ Below w.heap.size w w' := by
  have q : ∀ (w : World) (a : Nat), (binOp .eql 46 (.pointer (some ⟨a, 0, none⟩)) (.pointer none)).run Try.prog w = .ok (.bool false) w := fun w a => rfl
  have hb : Below w.heap.size w (w.alloc (.cells #[.int .i64 words, .int .i64 large, .int .i64 x2, .int .i64 x3, .int .i64 x4, .int .i64 x5, .slice a0 len cap] 44)) := (Below.refl _ _).alloc (Nat.le_refl _) _
  have c0 : ∀ i u, [Value.int .i64 words, .int .i64 large, .int .i64 x2, .int .i64 x3, .int .i64 x4, .int .i64 x5, .slice a0 len cap][i]? = some u → (w.alloc (.cells #[.int .i64 words, .int .i64 large, .int .i64 x2, .int .i64 x3, .int .i64 x4, .int .i64 x5, .slice a0 len cap] 44)).cell? ⟨w.heap.size, i, none⟩ = some u := fun i u hu => by
    have hi := (List.getElem?_eq_some_iff.1 hu).1
    simp only [List.length_cons, List.length_nil] at hi
    obtain rfl | rfl | rfl | rfl | rfl | rfl | rfl : i = 0 ∨ i = 1 ∨ i = 2 ∨ i = 3 ∨ i = 4 ∨ i = 5 ∨ i = 6 := by omega
    all_goals (simp at hu; subst hu; simp [go_sem])
  have HS := Lib.hid (hs.below hb)
  have HB := Lib.hid hb
  have d0 := c0 0 _ rfl
  have d1 := c0 1 _ rfl
  have d2 := c0 2 _ rfl
  have d3 := c0 3 _ rfl
  have d4 := c0 4 _ rfl
  have d5 := c0 5 _ rfl
  have d6 := c0 6 _ rfl
  have hl0 : w.heap.size < (w.alloc (.cells #[.int .i64 words, .int .i64 large, .int .i64 x2, .int .i64 x3, .int .i64 x4, .int .i64 x5, .slice a0 len cap] 44)).heap.size := by simp
  clear hs hb c0
  go_enter Try.func4, Try.ntmps4
  go_upto_region 1 with fail
  generalize (w.alloc (.cells #[.int .i64 words, .int .i64 large, .int .i64 x2, .int .i64 x3, .int .i64 x4, .int .i64 x5, .slice a0 len cap] 44)) = W at *
  go_wp2_with fail
  refine (hawake_any W).mono ?_
  rintro e w1 ⟨rfl, hb⟩
  replace d0 := later' hb d0
  replace d1 := later' hb d1
  replace d2 := later' hb d2
  replace d3 := later' hb d3
  replace d4 := later' hb d4
  replace d5 := later' hb d5
  replace d6 := later' hb d6
  have HS1 := Lib.hid (HS.out.below hb)
  have HB1 := Lib.hid (onB' HB.out hb)
  clear hb HS HB
  by_cases g0 : 300 < words
  · have f0 : decide (300 < words) = true := decide_eq_true g0
    go_wp2_with fail
    go_ret
    exact ⟨rfl, HB1.out⟩
  have f0 : decide (300 < words) = false := decide_eq_false g0
  go_wp2_with fail
  refine (right_any words large x2 x3 x4 x5 a0 len cap v w1 HS1.out).mono ?_
  rintro e w2 ⟨r, rfl, hr, hb⟩
  replace d0 := later' hb d0
  replace d1 := later' hb d1
  replace d2 := later' hb d2
  replace d3 := later' hb d3
  replace d4 := later' hb d4
  replace d5 := later' hb d5
  replace d6 := later' hb d6
  have HS2 := Lib.hid (HS1.out.below hb)
  have HB2 := Lib.hid (onB' HB1.out hb)
  have HR := Lib.hid hr
  clear hb HS1 HB1 hr
  cases r with
  | false =>
    go_wp2_with fail
    go_ret
    exact ⟨rfl, HB2.out⟩
  | true =>
    by_cases g1 : size < 0
    · have f1 : decide (size < 0) = true := decide_eq_true g1
      go_wp2_with fail
      go_ret
      exact ⟨rfl, HB2.out⟩
    have f1 : decide (size < 0) = false := decide_eq_false g1
    by_cases g2 : 1000 < size
    · have f2 : decide (1000 < size) = true := decide_eq_true g2
      go_wp2_with fail
      go_ret
      exact ⟨rfl, HB2.out⟩
    have f2 : decide (1000 < size) = false := decide_eq_false g2
    go_wp2_with fail
    clear f0 f1 f2
    have hright := HR.out trivial
    refine (heap_new words large x2 x3 x4 x5 a0 len cap v w2 HS2.out hright).mono ?_
    rintro e w3 ⟨x, T, rfl, n1, n2, n3, n4, h1, hb, hT⟩
    have HL := Lib.hid h1
    have HS3 := Lib.hid (HS2.out.below hb)
    have HB3 := Lib.hid (onB' HB2.out hb)
    replace d0 := later' hb d0
    replace d1 := later' hb d1
    replace d2 := later' hb d2
    replace d3 := later' hb d3
    replace d4 := later' hb d4
    replace d5 := later' hb d5
    replace d6 := later' hb d6
    have k1 := hright.k1
    have k2 := hright.k2
    have hrise := Lib.hid hright.rise
    have hpos := Lib.hid hright.rise.pos
    have hw1 := hright.w1
    have hl1 := hright.l1
    have hl2 := hright.l2
    obtain ⟨i, hC⟩ := cls_ex v len size
    obtain ⟨j, hC'⟩ := cls_ex v len (size + 1)
    have HC := Lib.hid (And.intro hC hC')
    have hm := rd_mono hrise.out hC hC'
    have hg := rd_ge hC
    have ew1 : IntKind.i64.wrap (size + 1) = size + 1 := by rw [IntKind.wrap_i64]; omega
    have ew3 : IntKind.i64.wrap (size + 3) = size + 3 := by rw [IntKind.wrap_i64]; omega
    have e1 : decide (rd v len size i ≤ rd v len (size + 1) j) = true := decide_eq_true hm
    have e2 : decide (size + 3 ≤ rd v len size i) = true := decide_eq_true hg
    have HR1 := Lib.hid (fun W (hL : HLies x T (fun _ => 0) (fun _ => none4) 1 0 (Ex.whole x.lim (x.n - x.lim : Int)) W) => round_rd x T _ _ 1 0 _ W hL size ⟨by omega, by omega⟩ i (by rw [n3, n4]; exact hC) (fun h => by rw [n4]; exact hpos.out i (by omega)))
    have HR2 := Lib.hid (fun W (hL : HLies x T (fun _ => 0) (fun _ => none4) 1 0 (Ex.whole x.lim (x.n - x.lim : Int)) W) => round_rd x T _ _ 1 0 _ W hL (size + 1) ⟨by omega, by omega⟩ j (by rw [n3, n4]; exact hC') (fun h => by rw [n4]; exact hpos.out j (by omega)))
    rw [n3, n4] at HR1 HR2
    have HR3 := Lib.hid (fun W q (hq : RHeap W q a0 len cap) (hS : Sizes W a0 len v) => rround_rd W q a0 len cap v hq hS size ⟨by omega, by omega⟩ i hC (by omega) hpos.out)
    clear h1 hb hT HS2 HB2 hC hC' hm hg HC
    generalize rd v len size i = A at *
    generalize rd v len (size + 1) j = B at *
    generalize hz1 : size + 1 = size1 at ew1 HR2
    generalize hz3 : size + 3 = size3 at ew3 e2
    go_wp2_with fail
    have hdr : Below w3.heap.size w3 w3.drew := (Below.refl _ _).drew
    replace HL := Lib.hid (HL.out.later hdr)
    replace HB3 := Lib.hid (onB' HB3.out hdr)
    replace HS3 := Lib.hid (HS3.out.below hdr)
    replace d0 := later' hdr d0
    replace d1 := later' hdr d1
    replace d2 := later' hdr d2
    replace d3 := later' hdr d3
    replace d4 := later' hdr d4
    replace d5 := later' hdr d5
    replace d6 := later' hdr d6
    clear hdr
    have hk9 : Cfg w.heap.size words large x2 x3 x4 x5 a0 len cap w3.drew := ⟨d0, d1, d2, d3, d4, d5, d6⟩
    clear d0 d1 d2 d3 d4 d5 d6
    refine wp_region_held_drew (S := fun W' => W'.cell? ⟨w.heap.size, 0, none⟩ = some (.int .i64 words) ∧ W'.cell? ⟨w.heap.size, 1, none⟩ = some (.int .i64 large) ∧ W'.cell? ⟨w.heap.size, 2, none⟩ = some (.int .i64 x2) ∧ W'.cell? ⟨w.heap.size, 3, none⟩ = some (.int .i64 x3) ∧ W'.cell? ⟨w.heap.size, 4, none⟩ = some (.int .i64 x4) ∧ W'.cell? ⟨w.heap.size, 5, none⟩ = some (.int .i64 x5) ∧ W'.cell? ⟨w.heap.size, 6, none⟩ = some (.slice a0 len cap)) (by kernel_rfl) hk9 (fun hHeld => ?_)
    refine wpAnyH_take (i := 0) (oi := { dst := some 36, op := Op.move (Operand.tmp 5), type := 46, pos := "law.go:212", after := #[], guard := none }) (v := ?_) rfl (by kernel_rfl) (by kernel_rfl) (by kernel_rfl) (fun _ _ _ h => h) (Or.inl ⟨by rfl, ?_⟩) (by assumption) ?_
    rotate_left
    · intro w hSw
      try dsimp only at hSw
      go_simp <;> with_reducible rfl
    try simp only [Act.put, List.setIfInBounds_toArray, List.set_cons_zero, List.set_cons_succ]
    refine wpAnyH_take (i := 1) (oi := { dst := some 37, op := Op.move (Operand.tmp 1), type := 3, pos := "law.go:212", after := #[], guard := none }) (v := ?_) rfl (by kernel_rfl) (by kernel_rfl) (by kernel_rfl) (fun _ _ _ h => h) (Or.inl ⟨by rfl, ?_⟩) (by assumption) ?_
    rotate_left
    · intro w hSw
      try dsimp only at hSw
      go_simp <;> with_reducible rfl
    try simp only [Act.put, List.setIfInBounds_toArray, List.set_cons_zero, List.set_cons_succ]
    refine wpAnyH_take (i := 3) (oi := { dst := some 39, op := Op.load 44 (Operand.tmp 2), type := 44, pos := "law.go:212", after := #[], guard := none }) (v := ?_) rfl (by kernel_rfl) (by kernel_rfl) (by kernel_rfl) (fun _ _ _ h => h) (Or.inl ⟨by rfl, ?_⟩) (by assumption) ?_
    rotate_left
    · intro w hSw
      try dsimp only at hSw
      go_simp <;> with_reducible rfl
    try simp only [Act.put, List.setIfInBounds_toArray, List.set_cons_zero, List.set_cons_succ]
    refine wpAnyH_take (i := 5) (oi := { dst := some 41, op := Op.move (Operand.tmp 1), type := 3, pos := "law.go:212", after := #[], guard := none }) (v := ?_) rfl (by kernel_rfl) (by kernel_rfl) (by kernel_rfl) (fun _ _ _ h => h) (Or.inl ⟨by rfl, ?_⟩) (by assumption) ?_
    rotate_left
    · intro w hSw
      try dsimp only at hSw
      go_simp <;> with_reducible rfl
    try simp only [Act.put, List.setIfInBounds_toArray, List.set_cons_zero, List.set_cons_succ]
    refine wpAnyH_ready (rs := [2]) (by kernel_rfl) (by simp) ?_
    refine AllReadyH.cons (o := { dst := some 38, op := Op.call { callee := Callee.value (Operand.func 18), args := #[Operand.tmp 36, Operand.tmp 37], argTypes := #[46, 3] }, type := 3, pos := "law.go:212", after := #[{ on := 0, ground := Ground.data }, { on := 1, ground := Ground.data }], guard := none }) rfl (fun K hK => ?_) AllReadyH.nil
    go_simp
    refine (HR1.out _ HL.out).mono ?_; rintro e y1 ⟨rfl, hb⟩; have HL := Lib.hid (HL.out.later hb); have HB3 := Lib.hid (onB' HB3.out hb); have HS3 := Lib.hid (HS3.out.below hb); have hk9 := hk9.later hb; clear hb
    go_wp2_with fail
    refine hK.out _ _ hk9 (fun hHeld => ?_)
    clear hK K
    try simp only [Act.put, List.setIfInBounds_toArray, List.set_cons_zero, List.set_cons_succ]
    refine wpAnyH_ready (rs := [4]) (by kernel_rfl) (by simp) ?_
    refine AllReadyH.cons (o := { dst := some 40, op := Op.call { callee := Callee.value (Operand.func 19), args := #[Operand.tmp 39], argTypes := #[44] }, type := 51, pos := "law.go:212", after := #[{ on := 3, ground := Ground.data }, { on := 2, ground := Ground.chain }], guard := none }) rfl (fun K hK => ?_) AllReadyH.nil
    go_simp
    refine (rheap_new words large x2 x3 x4 x5 a0 len cap _ (by omega) (by omega) hl1 hl2 k2).mono ?_; rintro e y1 ⟨q0, rfl, hq, hb, hqz⟩; have HQ := Lib.hid hq; have HL := Lib.hid (HL.out.later hb); have HB3 := Lib.hid (onB' HB3.out hb); have HS3 := Lib.hid (HS3.out.below hb); have hk9 := hk9.later hb; clear hb hq hqz
    go_wp2_with fail
    refine hK.out _ _ hk9 (fun hHeld => ?_)
    clear hK K
    try simp only [Act.put, List.setIfInBounds_toArray, List.set_cons_zero, List.set_cons_succ]
    refine wpAnyH_ready (rs := [6]) (by kernel_rfl) (by simp) ?_
    refine AllReadyH.cons (o := { dst := some 42, op := Op.call { callee := Callee.value (Operand.func 20), args := #[Operand.tmp 40, Operand.tmp 41], argTypes := #[51, 3] }, type := 3, pos := "law.go:212", after := #[{ on := 4, ground := Ground.data }, { on := 5, ground := Ground.data }, { on := 4, ground := Ground.chain }], guard := none }) rfl (fun K hK => ?_) AllReadyH.nil
    go_simp
    refine (HR3.out _ _ HQ.out HS3.out).mono ?_; rintro e y1 ⟨rfl, hb⟩; have HL := Lib.hid (HL.out.later hb); have HB3 := Lib.hid (onB' HB3.out hb); have HS3 := Lib.hid (HS3.out.below hb); have hk9 := hk9.later hb; clear hb HQ
    go_wp2_with fail
    refine hK.out _ _ hk9 (fun hHeld => ?_)
    clear hK K
    try simp only [Act.put, List.setIfInBounds_toArray, List.set_cons_zero, List.set_cons_succ]
    refine wpAnyH_take (i := 7) (oi := { dst := some 43, op := Op.binOp BinOp.eql 3 (Operand.tmp 38) (Operand.tmp 42) 3, type := 4, pos := "law.go:212", after := #[{ on := 2, ground := Ground.data }, { on := 6, ground := Ground.data }], guard := none }) (v := ?_) rfl (by kernel_rfl) (by kernel_rfl) (by kernel_rfl) (fun _ _ _ h => h) (Or.inl ⟨by rfl, ?_⟩) (by assumption) ?_
    rotate_left
    · intro w hSw
      try dsimp only at hSw
      go_simp <;> with_reducible rfl
    try simp only [Act.put, List.setIfInBounds_toArray, List.set_cons_zero, List.set_cons_succ]
    refine wpAnyH_take (i := 8) (oi := { dst := some 44, op := Op.move (Operand.tmp 43), type := 4, pos := "law.go:212", after := #[{ on := 7, ground := Ground.data }, { on := 6, ground := Ground.chain }], guard := none }) (v := ?_) rfl (by kernel_rfl) (by kernel_rfl) (by kernel_rfl) (fun _ _ _ h => h) (Or.inl ⟨by rfl, ?_⟩) (by assumption) ?_
    rotate_left
    · intro w hSw
      try dsimp only at hSw
      go_simp <;> with_reducible rfl
    try simp only [Act.put, List.setIfInBounds_toArray, List.set_cons_zero, List.set_cons_succ]
    refine wpAnyH_take (i := 9) (oi := { dst := some 45, op := Op.move (Operand.tmp 5), type := 46, pos := "law.go:212", after := #[{ on := 8, ground := Ground.guard }], guard := some (8, true) }) (v := ?_) rfl (by kernel_rfl) (by kernel_rfl) (by kernel_rfl) (fun _ _ _ h => h) (Or.inl ⟨by rfl, ?_⟩) (by assumption) ?_
    rotate_left
    · intro w hSw
      try dsimp only at hSw
      go_simp <;> with_reducible rfl
    try simp only [Act.put, List.setIfInBounds_toArray, List.set_cons_zero, List.set_cons_succ]
    refine wpAnyH_take (i := 10) (oi := { dst := some 46, op := Op.move (Operand.tmp 1), type := 3, pos := "law.go:212", after := #[{ on := 8, ground := Ground.guard }], guard := some (8, true) }) (v := ?_) rfl (by kernel_rfl) (by kernel_rfl) (by kernel_rfl) (fun _ _ _ h => h) (Or.inl ⟨by rfl, ?_⟩) (by assumption) ?_
    rotate_left
    · intro w hSw
      try dsimp only at hSw
      go_simp <;> with_reducible rfl
    try simp only [Act.put, List.setIfInBounds_toArray, List.set_cons_zero, List.set_cons_succ]
    refine wpAnyH_take (i := 11) (oi := { dst := some 47, op := Op.binOp BinOp.add 3 (Operand.tmp 46) (Operand.const (Value.int IntKind.i64 1)) 3, type := 3, pos := "law.go:212", after := #[{ on := 10, ground := Ground.data }, { on := 8, ground := Ground.guard }], guard := some (8, true) }) (v := ?_) rfl (by kernel_rfl) (by kernel_rfl) (by kernel_rfl) (fun _ _ _ h => h) (Or.inl ⟨by rfl, ?_⟩) (by assumption) ?_
    rotate_left
    · intro w hSw
      try dsimp only at hSw
      go_simp <;> with_reducible rfl
    try simp only [Act.put, List.setIfInBounds_toArray, List.set_cons_zero, List.set_cons_succ]
    refine wpAnyH_take (i := 13) (oi := { dst := some 49, op := Op.move (Operand.tmp 5), type := 46, pos := "law.go:212", after := #[{ on := 8, ground := Ground.guard }], guard := some (8, true) }) (v := ?_) rfl (by kernel_rfl) (by kernel_rfl) (by kernel_rfl) (fun _ _ _ h => h) (Or.inl ⟨by rfl, ?_⟩) (by assumption) ?_
    rotate_left
    · intro w hSw
      try dsimp only at hSw
      go_simp <;> with_reducible rfl
    try simp only [Act.put, List.setIfInBounds_toArray, List.set_cons_zero, List.set_cons_succ]
    refine wpAnyH_take (i := 14) (oi := { dst := some 50, op := Op.move (Operand.tmp 1), type := 3, pos := "law.go:212", after := #[{ on := 8, ground := Ground.guard }], guard := some (8, true) }) (v := ?_) rfl (by kernel_rfl) (by kernel_rfl) (by kernel_rfl) (fun _ _ _ h => h) (Or.inl ⟨by rfl, ?_⟩) (by assumption) ?_
    rotate_left
    · intro w hSw
      try dsimp only at hSw
      go_simp <;> with_reducible rfl
    try simp only [Act.put, List.setIfInBounds_toArray, List.set_cons_zero, List.set_cons_succ]
    refine wpAnyH_ready (rs := [12]) (by kernel_rfl) (by simp) ?_
    refine AllReadyH.cons (o := { dst := some 48, op := Op.call { callee := Callee.value (Operand.func 18), args := #[Operand.tmp 45, Operand.tmp 47], argTypes := #[46, 3] }, type := 3, pos := "law.go:212", after := #[{ on := 9, ground := Ground.data }, { on := 11, ground := Ground.data }, { on := 8, ground := Ground.chain }, { on := 8, ground := Ground.guard }], guard := some (8, true) }) rfl (fun K hK => ?_) AllReadyH.nil
    go_simp
    refine (HR2.out _ HL.out).mono ?_; rintro e y1 ⟨rfl, hb⟩; have HL := Lib.hid (HL.out.later hb); have HB3 := Lib.hid (onB' HB3.out hb); have HS3 := Lib.hid (HS3.out.below hb); have hk9 := hk9.later hb; clear hb
    go_wp2_with fail
    refine hK.out _ _ hk9 (fun hHeld => ?_)
    clear hK K
    try simp only [Act.put, List.setIfInBounds_toArray, List.set_cons_zero, List.set_cons_succ]
    refine wpAnyH_ready (rs := [15]) (by kernel_rfl) (by simp) ?_
    refine AllReadyH.cons (o := { dst := some 51, op := Op.call { callee := Callee.value (Operand.func 18), args := #[Operand.tmp 49, Operand.tmp 50], argTypes := #[46, 3] }, type := 3, pos := "law.go:212", after := #[{ on := 13, ground := Ground.data }, { on := 14, ground := Ground.data }, { on := 12, ground := Ground.chain }, { on := 8, ground := Ground.guard }], guard := some (8, true) }) rfl (fun K hK => ?_) AllReadyH.nil
    go_simp
    refine (HR1.out _ HL.out).mono ?_; rintro e y1 ⟨rfl, hb⟩; have HL := Lib.hid (HL.out.later hb); have HB3 := Lib.hid (onB' HB3.out hb); have HS3 := Lib.hid (HS3.out.below hb); have hk9 := hk9.later hb; clear hb
    go_wp2_with fail
    refine hK.out _ _ hk9 (fun hHeld => ?_)
    clear hK K
    try simp only [Act.put, List.setIfInBounds_toArray, List.set_cons_zero, List.set_cons_succ]
    refine wpAnyH_take (i := 16) (oi := { dst := some 52, op := Op.binOp BinOp.geq 3 (Operand.tmp 48) (Operand.tmp 51) 3, type := 4, pos := "law.go:212", after := #[{ on := 12, ground := Ground.data }, { on := 15, ground := Ground.data }, { on := 8, ground := Ground.guard }], guard := some (8, true) }) (v := ?_) rfl (by kernel_rfl) (by kernel_rfl) (by kernel_rfl) (fun _ _ _ h => h) (Or.inl ⟨by rfl, ?_⟩) (by assumption) ?_
    rotate_left
    · intro w hSw
      try dsimp only at hSw
      go_simp <;> with_reducible rfl
    try simp only [Act.put, List.setIfInBounds_toArray, List.set_cons_zero, List.set_cons_succ]
    refine wpAnyH_take (i := 17) (oi := { dst := some 53, op := Op.pick (Operand.tmp 44) (Operand.tmp 52) (Operand.const (Value.bool false)), type := 4, pos := "law.go:212", after := #[{ on := 8, ground := Ground.data }, { on := 16, ground := Ground.data }], guard := none }) (v := ?_) rfl (by kernel_rfl) (by kernel_rfl) (by kernel_rfl) (fun _ _ _ h => h) (Or.inl ⟨by rfl, ?_⟩) (by assumption) ?_
    rotate_left
    · intro w hSw
      try dsimp only at hSw
      go_simp <;> with_reducible rfl
    try simp only [Act.put, List.setIfInBounds_toArray, List.set_cons_zero, List.set_cons_succ]
    refine wpAnyH_take (i := 18) (oi := { dst := some 54, op := Op.move (Operand.tmp 53), type := 4, pos := "law.go:212", after := #[{ on := 17, ground := Ground.data }, { on := 15, ground := Ground.chain }], guard := none }) (v := ?_) rfl (by kernel_rfl) (by kernel_rfl) (by kernel_rfl) (fun _ _ _ h => h) (Or.inl ⟨by rfl, ?_⟩) (by assumption) ?_
    rotate_left
    · intro w hSw
      try dsimp only at hSw
      go_simp <;> with_reducible rfl
    try simp only [Act.put, List.setIfInBounds_toArray, List.set_cons_zero, List.set_cons_succ]
    refine wpAnyH_take (i := 19) (oi := { dst := some 55, op := Op.move (Operand.tmp 5), type := 46, pos := "law.go:212", after := #[{ on := 18, ground := Ground.guard }], guard := some (18, true) }) (v := ?_) rfl (by kernel_rfl) (by kernel_rfl) (by kernel_rfl) (fun _ _ _ h => h) (Or.inl ⟨by rfl, ?_⟩) (by assumption) ?_
    rotate_left
    · intro w hSw
      try dsimp only at hSw
      go_simp <;> with_reducible rfl
    try simp only [Act.put, List.setIfInBounds_toArray, List.set_cons_zero, List.set_cons_succ]
    refine wpAnyH_take (i := 20) (oi := { dst := some 56, op := Op.move (Operand.tmp 1), type := 3, pos := "law.go:212", after := #[{ on := 18, ground := Ground.guard }], guard := some (18, true) }) (v := ?_) rfl (by kernel_rfl) (by kernel_rfl) (by kernel_rfl) (fun _ _ _ h => h) (Or.inl ⟨by rfl, ?_⟩) (by assumption) ?_
    rotate_left
    · intro w hSw
      try dsimp only at hSw
      go_simp <;> with_reducible rfl
    try simp only [Act.put, List.setIfInBounds_toArray, List.set_cons_zero, List.set_cons_succ]
    refine wpAnyH_take (i := 22) (oi := { dst := some 58, op := Op.move (Operand.tmp 1), type := 3, pos := "law.go:212", after := #[{ on := 18, ground := Ground.guard }], guard := some (18, true) }) (v := ?_) rfl (by kernel_rfl) (by kernel_rfl) (by kernel_rfl) (fun _ _ _ h => h) (Or.inl ⟨by rfl, ?_⟩) (by assumption) ?_
    rotate_left
    · intro w hSw
      try dsimp only at hSw
      go_simp <;> with_reducible rfl
    try simp only [Act.put, List.setIfInBounds_toArray, List.set_cons_zero, List.set_cons_succ]
    refine wpAnyH_take (i := 23) (oi := { dst := some 59, op := Op.binOp BinOp.add 3 (Operand.tmp 58) (Operand.const (Value.int IntKind.i64 3)) 3, type := 3, pos := "law.go:212", after := #[{ on := 22, ground := Ground.data }, { on := 18, ground := Ground.guard }], guard := some (18, true) }) (v := ?_) rfl (by kernel_rfl) (by kernel_rfl) (by kernel_rfl) (fun _ _ _ h => h) (Or.inl ⟨by rfl, ?_⟩) (by assumption) ?_
    rotate_left
    · intro w hSw
      try dsimp only at hSw
      go_simp <;> with_reducible rfl
    try simp only [Act.put, List.setIfInBounds_toArray, List.set_cons_zero, List.set_cons_succ]
    refine wpAnyH_ready (rs := [21]) (by kernel_rfl) (by simp) ?_
    refine AllReadyH.cons (o := { dst := some 57, op := Op.call { callee := Callee.value (Operand.func 18), args := #[Operand.tmp 55, Operand.tmp 56], argTypes := #[46, 3] }, type := 3, pos := "law.go:212", after := #[{ on := 19, ground := Ground.data }, { on := 20, ground := Ground.data }, { on := 18, ground := Ground.chain }, { on := 18, ground := Ground.guard }], guard := some (18, true) }) rfl (fun K hK => ?_) AllReadyH.nil
    go_simp
    refine (HR1.out _ HL.out).mono ?_; rintro e y1 ⟨rfl, hb⟩; have HL := Lib.hid (HL.out.later hb); have HB3 := Lib.hid (onB' HB3.out hb); have HS3 := Lib.hid (HS3.out.below hb); have hk9 := hk9.later hb; clear hb
    go_wp2_with fail
    refine hK.out _ _ hk9 (fun hHeld => ?_)
    clear hK K
    try simp only [Act.put, List.setIfInBounds_toArray, List.set_cons_zero, List.set_cons_succ]
    refine wpAnyH_take (i := 24) (oi := { dst := some 60, op := Op.binOp BinOp.geq 3 (Operand.tmp 57) (Operand.tmp 59) 3, type := 4, pos := "law.go:212", after := #[{ on := 21, ground := Ground.data }, { on := 23, ground := Ground.data }, { on := 18, ground := Ground.guard }], guard := some (18, true) }) (v := ?_) rfl (by kernel_rfl) (by kernel_rfl) (by kernel_rfl) (fun _ _ _ h => h) (Or.inl ⟨by rfl, ?_⟩) (by assumption) ?_
    rotate_left
    · intro w hSw
      try dsimp only at hSw
      go_simp <;> with_reducible rfl
    try simp only [Act.put, List.setIfInBounds_toArray, List.set_cons_zero, List.set_cons_succ]
    refine wpAnyH_take (i := 25) (oi := { dst := some 61, op := Op.pick (Operand.tmp 54) (Operand.tmp 60) (Operand.const (Value.bool false)), type := 4, pos := "law.go:212", after := #[{ on := 18, ground := Ground.data }, { on := 24, ground := Ground.data }], guard := none }) (v := ?_) rfl (by kernel_rfl) (by kernel_rfl) (by kernel_rfl) (fun _ _ _ h => h) (Or.inl ⟨by rfl, ?_⟩) (by assumption) ?_
    rotate_left
    · intro w hSw
      try dsimp only at hSw
      go_simp <;> with_reducible rfl
    try simp only [Act.put, List.setIfInBounds_toArray, List.set_cons_zero, List.set_cons_succ]
    refine wpAnyH_take (i := 26) (oi := { dst := some 4, op := Op.assign (Operand.tmp 61), type := 4, pos := "law.go:212", after := #[{ on := 25, ground := Ground.data }, { on := 21, ground := Ground.chain }, { on := 0, ground := Ground.phase }, { on := 1, ground := Ground.phase }, { on := 2, ground := Ground.phase }, { on := 3, ground := Ground.phase }, { on := 4, ground := Ground.phase }, { on := 5, ground := Ground.phase }, { on := 6, ground := Ground.phase }, { on := 7, ground := Ground.phase }, { on := 8, ground := Ground.phase }, { on := 9, ground := Ground.phase }, { on := 10, ground := Ground.phase }, { on := 11, ground := Ground.phase }, { on := 12, ground := Ground.phase }, { on := 13, ground := Ground.phase }, { on := 14, ground := Ground.phase }, { on := 15, ground := Ground.phase }, { on := 16, ground := Ground.phase }, { on := 17, ground := Ground.phase }, { on := 18, ground := Ground.phase }, { on := 19, ground := Ground.phase }, { on := 20, ground := Ground.phase }, { on := 21, ground := Ground.phase }, { on := 22, ground := Ground.phase }, { on := 23, ground := Ground.phase }, { on := 24, ground := Ground.phase }, { on := 25, ground := Ground.phase }], guard := none }) (v := ?_) rfl (by kernel_rfl) (by kernel_rfl) (by kernel_rfl) (fun _ _ _ h => h) (Or.inl ⟨by rfl, ?_⟩) (by assumption) ?_
    rotate_left
    · intro w hSw
      try dsimp only at hSw
      go_simp <;> with_reducible rfl
    try simp only [Act.put, List.setIfInBounds_toArray, List.set_cons_zero, List.set_cons_succ]
    refine wpAnyH_done (by kernel_rfl) ?_ _
    go_wp2_with fail
    go_ret
    exact ⟨rfl, HB3.out⟩

end Go.Proofs.Ytbjlpmjalidfkaa
