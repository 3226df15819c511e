import Derived.Test.YthliahaopelooaaMg9
/- The table's Row, Queue, Roots. -/
namespace Go.Proofs.Ythliahaopelooaa
open Go.RowKit Go.Sort
section
variable {Kx : Nat → Prop} {S : LSp} {m : LM} {u : Int} {W : World}
theorem mkfuncw (fn : Fn) (first cap : Array Value) (w : World) : (Instr.makeFunc fn first cap).run Try.prog w = .ok (.func fn first cap) w := rfl
/-- The world with the three boxes. -/
def w3b (tb : Nat) (f c : Int) (W : World) : World := ((W.alloc (.cells #[.pointer (some ⟨tb, 0, none⟩)] 29)).alloc (.cells #[.int .i64 f] 3)).alloc (.cells #[.int .i64 c] 3)
set_option maxHeartbeats 1000000 in
theorem along_any (tb : Nat) (f c : Int) (W : World) : Calls Try.prog 49 #[.pointer (some ⟨tb, 0, none⟩), .int .i64 f, .int .i64 c] W fun e w' =>
    e = .returned (.func (.func 72) #[] #[.pointer (some ⟨W.heap.size + 1, 0, none⟩), .pointer (some ⟨W.heap.size + 2, 0, none⟩), .pointer (some ⟨W.heap.size, 0, none⟩)]) ∧ w' = w3b tb f c W := by
  have hmf := mkfuncw
  go_enter Try.func49, Try.ntmps49
  go_wp2_with fail
  go_ret
  exact ⟨rfl, rfl⟩
theorem list_of (h : Lm Kx S m u W) (row : List Int) (hch : Ch m.V row) (hob : ∀ p, p ∈ row → ∃ o, o ∈ m.O ∧ o.p = p ∧ o.s = 4) (hpos : ∀ p, p ∈ row → 1 ≤ p) (hlen : row.length ≤ 1000) :
    Calls Try.prog 48 #[.func (.func 72) #[] #[.pointer (some ⟨W.heap.size + 1, 0, none⟩), .pointer (some ⟨W.heap.size + 2, 0, none⟩), .pointer (some ⟨W.heap.size, 0, none⟩)]] (w3b S.tb (row.headD 0) row.length W) (RowSaid Kx S m row W) := by
  have b1 : Below W.heap.size W (W.alloc (.cells #[.pointer (some ⟨S.tb, 0, none⟩)] 29)) := (Below.refl _ _).alloc (Nat.le_refl _) _
  have h1 := h.own b1 (q := W.heap.size) (Nat.le_refl _) (by simp)
  have b2 := (Below.refl (W.alloc (.cells #[.pointer (some ⟨S.tb, 0, none⟩)] 29)).heap.size (W.alloc (.cells #[.pointer (some ⟨S.tb, 0, none⟩)] 29))).alloc (Nat.le_refl _) (.cells #[.int .i64 (row.headD 0)] 3)
  have h2 := h1.own b2 (q := W.heap.size + 1) (by simp) (by simp)
  have b3 := (Below.refl ((W.alloc (.cells #[.pointer (some ⟨S.tb, 0, none⟩)] 29)).alloc (.cells #[.int .i64 (row.headD 0)] 3)).heap.size ((W.alloc (.cells #[.pointer (some ⟨S.tb, 0, none⟩)] 29)).alloc (.cells #[.int .i64 (row.headD 0)] 3))).alloc (Nat.le_refl _) (.cells #[.int .i64 row.length] 3)
  have h3 := h2.own b3 (q := W.heap.size + 2) (by simp) (by simp)
  have hk : Kp Kx W (w3b S.tb (row.headD 0) row.length W) := ((h.later b1).2.trans (Kp.of_below b2 fun i hi => by have := h.bs i hi; simp; omega)).trans (Kp.of_below b3 fun i hi => by have := h.bs i hi; simp; omega)
  refine (list_any (q1 := W.heap.size + 1) (q2 := W.heap.size + 2) (qb := W.heap.size) row h3 hch hob hpos hlen (by simp [go_sem]) (by simp [go_sem]) (by simp [go_sem]) (Or.inl (Or.inr rfl)) (Or.inr rfl) (Or.inl (Or.inl (Or.inr rfl)))).mono ?_
  rintro e w' ⟨v, rfl, hv, ⟨u', hl⟩, hkp⟩
  exact ⟨v, rfl, hv, ⟨u', hl.less fun b hb => hb.imp (fun h => Or.inl (Or.inl (Or.inl h))) id⟩, hk.trans (hkp.mono fun b hb => Or.inl (Or.inl (Or.inl hb)))⟩
set_option maxHeartbeats 4000000 in
set_option maxRecDepth 100000 in
theorem row_any (h : Lm Kx S m u W) {row queue : List Int} (ht : Tbl m row queue) (hlen : row.length ≤ 1000) : Calls Try.prog 26 #[.pointer (some ⟨S.tb, 0, none⟩)] W (RowSaid Kx S m row W) := by
  have hdr : Below W.heap.size W W.drew := (Below.refl _ _).drew
  have h1 := h.later hdr
  have HL := Lib.hid (list_of h1.1 row ht.ch (fun p hp => ht.ob p (Or.inl hp)) (fun p hp => ht.pos p (Or.inl hp)) hlen)
  have hx := (((Below.refl W.drew.heap.size W.drew).alloc (Nat.le_refl _) (.cells #[.pointer (some ⟨S.tb, 0, none⟩)] 29)).alloc (by simp) (.cells #[.int .i64 (row.headD 0)] 3)).alloc (by simp; omega) (.cells #[.int .i64 row.length] 3)
  have h3 := (h1.1.later hx).1
  have HS := Lib.hid (And.intro (show A3 S m W.drew ∧ CMap W.drew S.ab m.dom.length m.f m.dom from ⟨h1.1.a3.1, h1.1.map⟩) (show A3 S m (w3b S.tb (row.headD 0) row.length W.drew) ∧ CMap (w3b S.tb (row.headD 0) row.length W.drew) S.ab m.dom.length m.f m.dom from ⟨h3.a3.1, h3.map⟩))
  have HK := Lib.hid h1.2
  have HT := Lib.hid (And.intro ht.first (And.intro ht.dl (And.intro ht.qu ht.cn)))
  clear h ht hdr h1 hx h3
  obtain ⟨f, hf⟩ : ∃ f, f = row.headD 0 := ⟨_, rfl⟩
  rw [← hf] at HL HS HT
  have HF := Lib.hid hf
  clear hf
  go_enter Try.func26, Try.ntmps26
  go_upto_region 1 with fail
  refine wp_region_held_drew (S := fun V => A3 S m V ∧ CMap V S.ab m.dom.length m.f m.dom) (by kernel_rfl) (HS.out.1) (fun hHeld => ?_)
  refine wpAnyH_take (i := 0) (oi := { dst := some 3, op := Op.move (Operand.tmp 0), type := 29, pos := "weak.go:163", after := #[], guard := none }) (v := ?_) rfl (by kernel_rfl) (by kernel_rfl) (by kernel_rfl) (fun _ _ _ h => h) (Or.inl ⟨by rfl, ?_⟩) (by assumption) ?_
  rotate_left
  · intro V9 hSw
    try dsimp only at hSw
    go_simp <;> with_reducible rfl
  try simp only [Act.put, List.setIfInBounds_toArray, List.set_cons_zero, List.set_cons_succ]
  refine wpAnyH_take (i := 1) (oi := { dst := some 4, op := Op.move (Operand.tmp 0), type := 29, pos := "weak.go:163", after := #[], guard := none }) (v := ?_) rfl (by kernel_rfl) (by kernel_rfl) (by kernel_rfl) (fun _ _ _ h => h) (Or.inl ⟨by rfl, ?_⟩) (by assumption) ?_
  rotate_left
  · intro V9 hSw
    try dsimp only at hSw
    go_simp <;> with_reducible rfl
  try simp only [Act.put, List.setIfInBounds_toArray, List.set_cons_zero, List.set_cons_succ]
  refine wpAnyH_take (i := 2) (oi := { dst := some 5, op := Op.nilCheck (Operand.tmp 4), type := 0, pos := "weak.go:163", after := #[{ on := 1, ground := Ground.data }], guard := none }) (v := ?_) rfl (by kernel_rfl) (by kernel_rfl) (by kernel_rfl) (fun _ _ _ h => h) (Or.inl ⟨by rfl, ?_⟩) (by assumption) ?_
  rotate_left
  · intro V9 hSw
    try dsimp only at hSw
    go_simp <;> with_reducible rfl
  try simp only [Act.put, List.setIfInBounds_toArray, List.set_cons_zero, List.set_cons_succ]
  refine wpAnyH_take (i := 3) (oi := { dst := some 6, op := Op.fieldAddr 87 (Operand.tmp 5) 2, type := 0, pos := "weak.go:163", after := #[{ on := 2, ground := Ground.data }], guard := none }) (v := ?_) rfl (by kernel_rfl) (by kernel_rfl) (by kernel_rfl) (fun _ _ _ h => h) (Or.inl ⟨by rfl, ?_⟩) (by assumption) ?_
  rotate_left
  · intro V9 hSw
    try dsimp only at hSw
    go_simp <;> with_reducible rfl
  try simp only [Act.put, List.setIfInBounds_toArray, List.set_cons_zero, List.set_cons_succ]
  refine wpAnyH_take (i := 4) (oi := { dst := some 7, op := Op.load 3 (Operand.tmp 6), type := 3, pos := "weak.go:163", after := #[{ on := 3, ground := Ground.data }], guard := none }) (v := ?_) rfl (by kernel_rfl) (by kernel_rfl) (by kernel_rfl) (fun _ _ _ h => h) (Or.inl ⟨by rfl, ?_⟩) (by assumption) ?_
  rotate_left
  · intro V9 hSw
    try dsimp only at hSw
    have d := hSw.1.fi
    rw [HT.out.1] at d
    go_simp <;> with_reducible rfl
  try simp only [Act.put, List.setIfInBounds_toArray, List.set_cons_zero, List.set_cons_succ]
  refine wpAnyH_take (i := 5) (oi := { dst := some 8, op := Op.move (Operand.tmp 0), type := 29, pos := "weak.go:163", after := #[], guard := none }) (v := ?_) rfl (by kernel_rfl) (by kernel_rfl) (by kernel_rfl) (fun _ _ _ h => h) (Or.inl ⟨by rfl, ?_⟩) (by assumption) ?_
  rotate_left
  · intro V9 hSw
    try dsimp only at hSw
    go_simp <;> with_reducible rfl
  try simp only [Act.put, List.setIfInBounds_toArray, List.set_cons_zero, List.set_cons_succ]
  refine wpAnyH_take (i := 6) (oi := { dst := some 9, op := Op.nilCheck (Operand.tmp 8), type := 0, pos := "weak.go:163", after := #[{ on := 5, ground := Ground.data }], guard := none }) (v := ?_) rfl (by kernel_rfl) (by kernel_rfl) (by kernel_rfl) (fun _ _ _ h => h) (Or.inl ⟨by rfl, ?_⟩) (by assumption) ?_
  rotate_left
  · intro V9 hSw
    try dsimp only at hSw
    go_simp <;> with_reducible rfl
  try simp only [Act.put, List.setIfInBounds_toArray, List.set_cons_zero, List.set_cons_succ]
  refine wpAnyH_take (i := 7) (oi := { dst := some 10, op := Op.fieldAddr 87 (Operand.tmp 9) 3, type := 0, pos := "weak.go:163", after := #[{ on := 6, ground := Ground.data }], guard := none }) (v := ?_) rfl (by kernel_rfl) (by kernel_rfl) (by kernel_rfl) (fun _ _ _ h => h) (Or.inl ⟨by rfl, ?_⟩) (by assumption) ?_
  rotate_left
  · intro V9 hSw
    try dsimp only at hSw
    go_simp <;> with_reducible rfl
  try simp only [Act.put, List.setIfInBounds_toArray, List.set_cons_zero, List.set_cons_succ]
  refine wpAnyH_take (i := 8) (oi := { dst := some 11, op := Op.load 85 (Operand.tmp 10), type := 85, pos := "weak.go:163", after := #[{ on := 7, ground := Ground.data }], guard := none }) (v := ?_) rfl (by kernel_rfl) (by kernel_rfl) (by kernel_rfl) (fun _ _ _ h => h) (Or.inl ⟨by rfl, ?_⟩) (by assumption) ?_
  rotate_left
  · intro V9 hSw
    try dsimp only at hSw
    have d := hSw.1.a
    go_simp <;> with_reducible rfl
  try simp only [Act.put, List.setIfInBounds_toArray, List.set_cons_zero, List.set_cons_succ]
  refine wpAnyH_take (i := 9) (oi := { dst := some 12, op := Op.call { callee := Callee.builtin Builtin.len, args := #[Operand.tmp 11], argTypes := #[85] }, type := 3, pos := "weak.go:163", after := #[{ on := 8, ground := Ground.data }], guard := none }) (v := ?_) rfl (by kernel_rfl) (by kernel_rfl) (by kernel_rfl) (fun _ _ _ h => h) (Or.inl ⟨by rfl, ?_⟩) (by assumption) ?_
  rotate_left
  · intro V9 hSw
    try dsimp only at hSw
    have d := hSw.2.len 3
    rw [HT.out.2.1] at d
    go_simp <;> with_reducible rfl
  try simp only [Act.put, List.setIfInBounds_toArray, List.set_cons_zero, List.set_cons_succ]
  refine wpAnyH_ready (rs := [10]) (by kernel_rfl) (by simp) ?_
  refine AllReadyH.cons (o := { dst := some 13, op := Op.call { callee := Callee.value (Operand.func 49), args := #[Operand.tmp 3, Operand.tmp 7, Operand.tmp 12], argTypes := #[29, 3, 3] }, type := 99, pos := "weak.go:163", after := #[{ on := 0, ground := Ground.data }, { on := 4, ground := Ground.data }, { on := 9, ground := Ground.data }, { on := 9, ground := Ground.chain }], guard := none }) rfl (fun K hK => ?_) AllReadyH.nil
  go_simp
  refine (along_any S.tb f row.length W.drew).mono ?_
  rintro e w2 ⟨rfl, rfl⟩
  go_wp2_with fail
  refine hK.out _ _ (HS.out.2) (fun hHeld => ?_)
  clear hK K
  try simp only [Act.put, List.setIfInBounds_toArray, List.set_cons_zero, List.set_cons_succ]
  refine wpAnyH_ready (rs := [11]) (by kernel_rfl) (by simp) ?_
  refine AllReadyH.cons (o := { dst := some 14, op := Op.call { callee := Callee.value (Operand.func 48), args := #[Operand.tmp 13], argTypes := #[99] }, type := 22, pos := "weak.go:163", after := #[{ on := 10, ground := Ground.data }, { on := 10, ground := Ground.chain }], guard := none }) rfl (fun K hK => ?_) AllReadyH.nil
  go_simp
  refine (HL.out).mono ?_
  rintro e w9 ⟨v9, rfl, hv9, ⟨u9, hl9⟩, hk9⟩
  go_wp2_with fail
  refine hK.out _ _ (⟨hl9.a3.1, hl9.map⟩) (fun hHeld => ?_)
  clear hK K
  try simp only [Act.put, List.setIfInBounds_toArray, List.set_cons_zero, List.set_cons_succ]
  refine wpAnyH_take (i := 12) (oi := { dst := some 2, op := Op.assign (Operand.tmp 14), type := 22, pos := "weak.go:163", after := #[{ on := 11, ground := Ground.data }, { on := 11, ground := Ground.chain }, { on := 0, ground := Ground.phase }, { on := 1, ground := Ground.phase }, { on := 2, ground := Ground.phase }, { on := 3, ground := Ground.phase }, { on := 4, ground := Ground.phase }, { on := 5, ground := Ground.phase }, { on := 6, ground := Ground.phase }, { on := 7, ground := Ground.phase }, { on := 8, ground := Ground.phase }, { on := 9, ground := Ground.phase }, { on := 10, ground := Ground.phase }, { on := 11, ground := Ground.phase }], guard := none }) (v := ?_) rfl (by kernel_rfl) (by kernel_rfl) (by kernel_rfl) (fun _ _ _ h => h) (Or.inl ⟨by rfl, ?_⟩) (by assumption) ?_
  rotate_left
  · intro V9 hSw
    try dsimp only at hSw
    go_simp <;> with_reducible rfl
  try simp only [Act.put, List.setIfInBounds_toArray, List.set_cons_zero, List.set_cons_succ]
  refine wpAnyH_done (by kernel_rfl) ?_ _
  go_wp2_with fail
  go_ret
  exact ⟨_, rfl, hv9, ⟨u9, hl9⟩, HK.out.trans hk9⟩
set_option maxHeartbeats 4000000 in
set_option maxRecDepth 100000 in
theorem queue_any (h : Lm Kx S m u W) {row queue : List Int} (ht : Tbl m row queue) (hlen : queue.length ≤ 1000) : Calls Try.prog 22 #[.pointer (some ⟨S.tb, 0, none⟩)] W (RowSaid Kx S m queue W) := by
  have hdr : Below W.heap.size W W.drew := (Below.refl _ _).drew
  have h1 := h.later hdr
  have HL := Lib.hid (list_of h1.1 queue ht.cq (fun p hp => ht.ob p (Or.inr hp)) (fun p hp => ht.pos p (Or.inr hp)) hlen)
  have hx := (((Below.refl W.drew.heap.size W.drew).alloc (Nat.le_refl _) (.cells #[.pointer (some ⟨S.tb, 0, none⟩)] 29)).alloc (by simp) (.cells #[.int .i64 (queue.headD 0)] 3)).alloc (by simp; omega) (.cells #[.int .i64 queue.length] 3)
  have h3 := (h1.1.later hx).1
  have HS := Lib.hid (And.intro (show A3 S m W.drew ∧ CMap W.drew S.ab m.dom.length m.f m.dom from ⟨h1.1.a3.1, h1.1.map⟩) (show A3 S m (w3b S.tb (queue.headD 0) queue.length W.drew) ∧ CMap (w3b S.tb (queue.headD 0) queue.length W.drew) S.ab m.dom.length m.f m.dom from ⟨h3.a3.1, h3.map⟩))
  have HK := Lib.hid h1.2
  have HT := Lib.hid (And.intro ht.first (And.intro ht.dl (And.intro ht.qu ht.cn)))
  clear h ht hdr h1 hx h3
  obtain ⟨f, hf⟩ : ∃ f, f = queue.headD 0 := ⟨_, rfl⟩
  rw [← hf] at HL HS HT
  have HF := Lib.hid hf
  clear hf
  go_enter Try.func22, Try.ntmps22
  go_upto_region 1 with fail
  refine wp_region_held_drew (S := fun V => A3 S m V ∧ CMap V S.ab m.dom.length m.f m.dom) (by kernel_rfl) (HS.out.1) (fun hHeld => ?_)
  refine wpAnyH_take (i := 0) (oi := { dst := some 3, op := Op.move (Operand.tmp 0), type := 29, pos := "weak.go:166", after := #[], guard := none }) (v := ?_) rfl (by kernel_rfl) (by kernel_rfl) (by kernel_rfl) (fun _ _ _ h => h) (Or.inl ⟨by rfl, ?_⟩) (by assumption) ?_
  rotate_left
  · intro V9 hSw
    try dsimp only at hSw
    go_simp <;> with_reducible rfl
  try simp only [Act.put, List.setIfInBounds_toArray, List.set_cons_zero, List.set_cons_succ]
  refine wpAnyH_take (i := 1) (oi := { dst := some 4, op := Op.move (Operand.tmp 0), type := 29, pos := "weak.go:166", after := #[], guard := none }) (v := ?_) rfl (by kernel_rfl) (by kernel_rfl) (by kernel_rfl) (fun _ _ _ h => h) (Or.inl ⟨by rfl, ?_⟩) (by assumption) ?_
  rotate_left
  · intro V9 hSw
    try dsimp only at hSw
    go_simp <;> with_reducible rfl
  try simp only [Act.put, List.setIfInBounds_toArray, List.set_cons_zero, List.set_cons_succ]
  refine wpAnyH_take (i := 2) (oi := { dst := some 5, op := Op.nilCheck (Operand.tmp 4), type := 0, pos := "weak.go:166", after := #[{ on := 1, ground := Ground.data }], guard := none }) (v := ?_) rfl (by kernel_rfl) (by kernel_rfl) (by kernel_rfl) (fun _ _ _ h => h) (Or.inl ⟨by rfl, ?_⟩) (by assumption) ?_
  rotate_left
  · intro V9 hSw
    try dsimp only at hSw
    go_simp <;> with_reducible rfl
  try simp only [Act.put, List.setIfInBounds_toArray, List.set_cons_zero, List.set_cons_succ]
  refine wpAnyH_take (i := 3) (oi := { dst := some 6, op := Op.fieldAddr 87 (Operand.tmp 5) 5, type := 0, pos := "weak.go:166", after := #[{ on := 2, ground := Ground.data }], guard := none }) (v := ?_) rfl (by kernel_rfl) (by kernel_rfl) (by kernel_rfl) (fun _ _ _ h => h) (Or.inl ⟨by rfl, ?_⟩) (by assumption) ?_
  rotate_left
  · intro V9 hSw
    try dsimp only at hSw
    go_simp <;> with_reducible rfl
  try simp only [Act.put, List.setIfInBounds_toArray, List.set_cons_zero, List.set_cons_succ]
  refine wpAnyH_take (i := 4) (oi := { dst := some 7, op := Op.load 3 (Operand.tmp 6), type := 3, pos := "weak.go:166", after := #[{ on := 3, ground := Ground.data }], guard := none }) (v := ?_) rfl (by kernel_rfl) (by kernel_rfl) (by kernel_rfl) (fun _ _ _ h => h) (Or.inl ⟨by rfl, ?_⟩) (by assumption) ?_
  rotate_left
  · intro V9 hSw
    try dsimp only at hSw
    have d := hSw.1.qu
    rw [HT.out.2.2.1] at d
    go_simp <;> with_reducible rfl
  try simp only [Act.put, List.setIfInBounds_toArray, List.set_cons_zero, List.set_cons_succ]
  refine wpAnyH_take (i := 5) (oi := { dst := some 8, op := Op.move (Operand.tmp 0), type := 29, pos := "weak.go:166", after := #[], guard := none }) (v := ?_) rfl (by kernel_rfl) (by kernel_rfl) (by kernel_rfl) (fun _ _ _ h => h) (Or.inl ⟨by rfl, ?_⟩) (by assumption) ?_
  rotate_left
  · intro V9 hSw
    try dsimp only at hSw
    go_simp <;> with_reducible rfl
  try simp only [Act.put, List.setIfInBounds_toArray, List.set_cons_zero, List.set_cons_succ]
  refine wpAnyH_take (i := 6) (oi := { dst := some 9, op := Op.nilCheck (Operand.tmp 8), type := 0, pos := "weak.go:166", after := #[{ on := 5, ground := Ground.data }], guard := none }) (v := ?_) rfl (by kernel_rfl) (by kernel_rfl) (by kernel_rfl) (fun _ _ _ h => h) (Or.inl ⟨by rfl, ?_⟩) (by assumption) ?_
  rotate_left
  · intro V9 hSw
    try dsimp only at hSw
    go_simp <;> with_reducible rfl
  try simp only [Act.put, List.setIfInBounds_toArray, List.set_cons_zero, List.set_cons_succ]
  refine wpAnyH_take (i := 7) (oi := { dst := some 10, op := Op.fieldAddr 87 (Operand.tmp 9) 7, type := 0, pos := "weak.go:166", after := #[{ on := 6, ground := Ground.data }], guard := none }) (v := ?_) rfl (by kernel_rfl) (by kernel_rfl) (by kernel_rfl) (fun _ _ _ h => h) (Or.inl ⟨by rfl, ?_⟩) (by assumption) ?_
  rotate_left
  · intro V9 hSw
    try dsimp only at hSw
    go_simp <;> with_reducible rfl
  try simp only [Act.put, List.setIfInBounds_toArray, List.set_cons_zero, List.set_cons_succ]
  refine wpAnyH_take (i := 8) (oi := { dst := some 11, op := Op.load 3 (Operand.tmp 10), type := 3, pos := "weak.go:166", after := #[{ on := 7, ground := Ground.data }], guard := none }) (v := ?_) rfl (by kernel_rfl) (by kernel_rfl) (by kernel_rfl) (fun _ _ _ h => h) (Or.inl ⟨by rfl, ?_⟩) (by assumption) ?_
  rotate_left
  · intro V9 hSw
    try dsimp only at hSw
    have d := hSw.1.cn
    rw [HT.out.2.2.2] at d
    go_simp <;> with_reducible rfl
  try simp only [Act.put, List.setIfInBounds_toArray, List.set_cons_zero, List.set_cons_succ]
  refine wpAnyH_ready (rs := [9]) (by kernel_rfl) (by simp) ?_
  refine AllReadyH.cons (o := { dst := some 12, op := Op.call { callee := Callee.value (Operand.func 49), args := #[Operand.tmp 3, Operand.tmp 7, Operand.tmp 11], argTypes := #[29, 3, 3] }, type := 99, pos := "weak.go:166", after := #[{ on := 0, ground := Ground.data }, { on := 4, ground := Ground.data }, { on := 8, ground := Ground.data }], guard := none }) rfl (fun K hK => ?_) AllReadyH.nil
  go_simp
  refine (along_any S.tb f queue.length W.drew).mono ?_
  rintro e w2 ⟨rfl, rfl⟩
  go_wp2_with fail
  refine hK.out _ _ (HS.out.2) (fun hHeld => ?_)
  clear hK K
  try simp only [Act.put, List.setIfInBounds_toArray, List.set_cons_zero, List.set_cons_succ]
  refine wpAnyH_ready (rs := [10]) (by kernel_rfl) (by simp) ?_
  refine AllReadyH.cons (o := { dst := some 13, op := Op.call { callee := Callee.value (Operand.func 48), args := #[Operand.tmp 12], argTypes := #[99] }, type := 22, pos := "weak.go:166", after := #[{ on := 9, ground := Ground.data }, { on := 9, ground := Ground.chain }], guard := none }) rfl (fun K hK => ?_) AllReadyH.nil
  go_simp
  refine (HL.out).mono ?_
  rintro e w9 ⟨v9, rfl, hv9, ⟨u9, hl9⟩, hk9⟩
  go_wp2_with fail
  refine hK.out _ _ (⟨hl9.a3.1, hl9.map⟩) (fun hHeld => ?_)
  clear hK K
  try simp only [Act.put, List.setIfInBounds_toArray, List.set_cons_zero, List.set_cons_succ]
  refine wpAnyH_take (i := 11) (oi := { dst := some 2, op := Op.assign (Operand.tmp 13), type := 22, pos := "weak.go:166", after := #[{ on := 10, ground := Ground.data }, { on := 10, ground := Ground.chain }, { on := 0, ground := Ground.phase }, { on := 1, ground := Ground.phase }, { on := 2, ground := Ground.phase }, { on := 3, ground := Ground.phase }, { on := 4, ground := Ground.phase }, { on := 5, ground := Ground.phase }, { on := 6, ground := Ground.phase }, { on := 7, ground := Ground.phase }, { on := 8, ground := Ground.phase }, { on := 9, ground := Ground.phase }, { on := 10, ground := Ground.phase }], guard := none }) (v := ?_) rfl (by kernel_rfl) (by kernel_rfl) (by kernel_rfl) (fun _ _ _ h => h) (Or.inl ⟨by rfl, ?_⟩) (by assumption) ?_
  rotate_left
  · intro V9 hSw
    try dsimp only at hSw
    go_simp <;> with_reducible rfl
  try simp only [Act.put, List.setIfInBounds_toArray, List.set_cons_zero, List.set_cons_succ]
  refine wpAnyH_done (by kernel_rfl) ?_ _
  go_wp2_with fail
  go_ret
  exact ⟨_, rfl, hv9, ⟨u9, hl9⟩, HK.out.trans hk9⟩
end
end Go.Proofs.Ythliahaopelooaa
/- The document's table: one of its rows is another one; a row is appended onto a new one. -/
namespace Go.Proofs.Ythliahaopelooaa
open Go.RowKit Go.Shelf
theorem Try.info_rweak : (Try.prog.info? 81).map (fun i => (i.zero, i.size, i.bytes)) = some (some (.agg #[.int .i64 0, .int .i64 0, .bool false]), 3, 24) := by kernel_rfl
theorem addr_addw (g off i : Nat) : (⟨g, off, none⟩ : Addr).add i = ⟨g, off + i, none⟩ := by
  unfold Addr.add
  split <;> simp_all
theorem wown_slice {w : World} {base : Nat} {e : TypeId} {size : Nat} {v : Value} {n : Nat} {xs : List Value} (h : w.ownsRow base e size v n xs) : ∃ ao cap, v = .slice ao n cap ∧ n ≤ cap := by
  rcases h.2 with ⟨rfl, rfl⟩ | ⟨g, cap, cur, rfl, hg, hb, hc, _⟩
  · exact ⟨none, 0, rfl, Nat.le_refl _⟩
  · exact ⟨_, cap, rfl, hc⟩
set_option maxHeartbeats 1000000 in
theorem wrun_nil (ty : TypeId) (v : Value) (base n : Nat) (xs : List Value) (c : Nat) (w : World) (h : w.ownsRow base 81 3 v n xs) :
    (Builtin.append_ #[73, 73] ty #[v, .slice none 0 c]).run Try.prog w = .ok v w := by
  have hu : Try.prog.underlying 73 = some (.slice 81) := Try.underlying73
  rcases h.2 with ⟨rfl, rfl⟩ | ⟨g, cap, cur, rfl, _, _, hcap, _⟩
  · simp [Builtin.append_, run_underlying hu, Try.sizeOf81, Builtin.firstCells, Builtin.lenOf, go_sem]
  · simp [Builtin.append_, run_underlying hu, Try.sizeOf81, Builtin.firstCells, Builtin.lenOf, go_sem, hcap]
set_option maxHeartbeats 1000000 in
theorem wrun_dr (ty : TypeId) (w : World) (base n : Nat) (v : Value) (xs : List Value) (hown : w.ownsRow base 81 3 v n xs) (G : Nat → Nat) (x : Value) (l : List (Int × Int)) (hx : DR G w x l) (hb : n + l.length ≤ 100000) (hbase : base ≤ w.heap.size) :
    ∃ v' w', (Builtin.append_ #[73, 73] ty #[v, x]).run Try.prog w = .ok v' w' ∧ w'.ownsRow base 81 3 v' (n + l.length) (xs ++ flat3 l) ∧ w.grownBy w' v.ownBlock := by
  obtain ⟨i0, hi, hz0, hz1, hz2⟩ := info_parts Try.info_rweak
  obtain ⟨ao, cap, rfl, hcap, hc⟩ := hx
  by_cases h0 : l = []
  · subst h0
    cases ao with
    | none => exact ⟨v, w, wrun_nil ty v base n _ cap w hown, by simpa [flat3] using hown, ⟨rfl, rfl, rfl, Nat.le_refl _, fun _ _ _ => rfl⟩⟩
    | some ad =>
      obtain ⟨v', w', hr, h2, h3, _⟩ := run_append_own (P := Try.prog) w base 73 ty 81 i0 _ 3 24 Try.underlying73 hi hz0 hz1 hz2 rfl (by decide) v n xs hown ad 0 cap [] (by simp) (fun j u hu => by cases hu) (fun u hu => by cases hu) (by unfold maxLen; omega) (by omega) hbase
      exact ⟨v', w', hr, by simpa [flat3] using h2, h3⟩
  · obtain ⟨g, off, rfl, hg, h⟩ := hc (List.length_pos_iff.2 h0)
    obtain ⟨v', w', hr, h2, h3, _⟩ := run_append_own (P := Try.prog) w base 73 ty 81 i0 _ 3 24 Try.underlying73 hi hz0 hz1 hz2 rfl (by decide) v n xs hown ⟨g, off, none⟩ l.length cap (flat3 l) (flat3_len l) (fun j u hu => by rw [addr_addw]; exact h j u hu) flat3_one (by unfold maxLen; omega) (by omega) hbase
    exact ⟨v', w', hr, h2, h3⟩
theorem wstep_dr {ops : Array Oper} {o : Oper} {a : Act} {K : Act → World → Prop} {Q : Exit → Act → World → Prop} {E : Prop} (hgd : o.guard = none) (s x : Operand) (ho : o.op = .call { callee := .builtin .append, args := #[s, x], argTypes := #[73, 73] })
    (w : World) (base n : Nat) (v : Value) (xs : List Value) (hs : a.eval s = v) (hown : w.ownsRow base 81 3 v n xs) (G : Nat → Nat) (xv : Value) (l : List (Int × Int)) (hx : a.eval x = xv) (hsrc : DR G w xv l) (hb : n + l.length ≤ 100000) (hbase : base ≤ w.heap.size)
    (h : ∀ ao cap w', w'.ownsRow base 81 3 (.slice ao (n + l.length) cap) (n + l.length) (xs ++ flat3 l) → w.grownBy w' v.ownBlock → K (a.put o.dst (.slice ao (n + l.length) cap)) w') :
    if Region.wanted o (yielded ops a.tmps) = true then Oper.wp Try.prog o a w K Q else E := by
  have hw : Region.wanted o (yielded ops a.tmps) = true := by simp [Region.wanted, hgd]
  rw [if_pos hw]
  obtain ⟨v', w', hr, h2, h3⟩ := wrun_dr o.type w base n v xs hown G xv l hsrc hb hbase
  obtain ⟨ao, cap, rfl, -⟩ := wown_slice h2
  unfold Oper.wp execOp
  simp only [ho, resolve, invoke, builtin, Sem.run_bind, Sem.run_pure, Result.andThen_ok, List.map_toArray, List.map_cons, List.map_nil, hs, hx, hr]
  exact h ao cap w' h2 h3
section
variable {Kx : Nat → Prop} {S : LSp} {m : LM} {u : Int} {x : HSpot} {T : Nat → Nat} {D : Nat → Int} {R : Nat → Rows} {top : Int} {L : List (Int × Int)} {G : Nat → Nat} {vk vw vm vs : Value} {W W2 : World}
theorem Lx.ref_dr (h : Lx Kx S m u x T D R top L G vk vw vm vs W) (hb : Below W.heap.size W W2) {v : Value} {l : List (Int × Int)} (ho : W2.ownsRow W.heap.size 81 3 v l.length (flat3 l)) :
    Lm Kx S { m with dr := l } u (W2.setCell ⟨S.mb, 0, none⟩ v) ∧ Kp Kx W (W2.setCell ⟨S.mb, 0, none⟩ v) := by
  have lmb := h.gt S.mb (by rw [h.ll.g5]; decide)
  have s1 := hb.size
  have sz : (W2.setCell ⟨S.mb, 0, none⟩ v).heap.size = W2.heap.size := by simp [World.setCell]
  have hk : ∀ b, b < W.heap.size → b ≠ S.mb → (W2.setCell ⟨S.mb, 0, none⟩ v).heap[b]? = W.heap[b]? := fun b hl h1 => (Below.heap_setCell _ _ _ _ h1).trans (hb.block b hl)
  have hheap : ∀ b, b < W.heap.size → T b ≠ 1000 → (W2.setCell ⟨S.mb, 0, none⟩ v).heap[b]? = W.heap[b]? := fun b hl ht => hk b hl (fun e => ht (by rw [e]; exact lmb.2.2))
  obtain ⟨cb, cp, gg, htg, -⟩ := h.ha.1.rest
  have hl : HLies x T D R top m.par L (W2.setCell ⟨S.mb, 0, none⟩ v) := h.ha.1.butw hheap (by omega)
  have hA : At (W2.setCell ⟨S.mb, 0, none⟩ v) x.p x.d x.n D u := h.ha.2.move (hheap _ h.ha.2.lp (by rw [htg.p]; omega)) (hheap _ h.ha.2.ld (by rw [htg.d]; omega)) (by omega)
  have gk : ∀ b t, G b = t → t ≠ 0 → t ≠ 5 → (W2.setCell ⟨S.mb, 0, none⟩ v).heap[b]? = W.heap[b]? := fun b t hb h0 h5 => hk b (h.gt b (by omega)).2.1 (fun e => by have := h.ll.g5; rw [← e] at this; omega)
  have own : ∀ b, v.ownBlock = some b → W.heap.size ≤ b ∧ b < W2.heap.size := fun b e => ho.lt b e
  have G' : ∀ b t, G b = t → t ≠ 0 → (if v.ownBlock = some b then 10 else G b) = t := fun b t hb h0 => by
    rw [if_neg (fun e => by have := (own b e).1; have := (h.gt b (by omega)).2.1; omega)]
    exact hb
  have tr : ∀ v' l', DR G W v' l' → DR (fun b => if v.ownBlock = some b then 10 else G b) (W2.setCell ⟨S.mb, 0, none⟩ v) v' l' := fun v' l' hd => by
    obtain ⟨ao, cp2, e1, e2, e3⟩ := hd.same (W' := W2.setCell ⟨S.mb, 0, none⟩ v) (fun b hb => gk b 10 hb (by decide) (by decide))
    refine ⟨ao, cp2, e1, e2, fun h0 => ?_⟩
    obtain ⟨q, off, e4, e5, e6⟩ := e3 h0
    exact ⟨q, off, e4, G' q 10 e5 (by decide), e6⟩
  have mbc : ∀ (j : Nat) (v' : Value), j ≠ 0 → W.cell? ⟨S.mb, j, none⟩ = some v' → (W2.setCell ⟨S.mb, 0, none⟩ v).cell? ⟨S.mb, j, none⟩ = some v' := fun j v' hj hv => (World.cell?_setCell_other _ _ _ _ (fun e => hj (by cases e; rfl))).trans (later' hb hv)
  obtain ⟨⟨v1, c1, d1⟩, ⟨v2, c2, d2⟩, ⟨v3, c3, d3⟩, fz⟩ := h.ll.a5
  have hnew : DR (fun b => if v.ownBlock = some b then 10 else G b) (W2.setCell ⟨S.mb, 0, none⟩ v) v l := by
    obtain ⟨ao, cap, rfl, hcap⟩ := wown_slice ho
    refine ⟨ao, cap, rfl, hcap, fun h0 => ?_⟩
    rcases ho.2 with ⟨e, e2⟩ | ⟨g, cap', cur, e, hg, hbk, hr⟩
    · omega
    · cases e
      refine ⟨g, 0, rfl, if_pos rfl, fun j u hu => ?_⟩
      have := ho.cells rfl j u hu
      rw [Addr.add_lit] at this
      refine (World.cell?_setCell_other _ _ _ _ (fun e => ?_)).trans (by simpa using this)
      have e' := congrArg Addr.block e
      simp only at e'
      have := lmb.2.1
      omega
  have a3 := h.ll.a3.same (gk _ 3 h.ll.g3 (by decide) (by decide))
  refine ⟨⟨x, T, D, R, top, L, fun b => if v.ownBlock = some b then 10 else G b, vk, vw, vm, vs, h.xh, ⟨hl, hA⟩, h.hp, ⟨G' _ 1 h.ll.g1 (by decide), G' _ 2 h.ll.g2 (by decide), G' _ 3 h.ll.g3 (by decide), G' _ 4 h.ll.g4 (by decide), G' _ 5 h.ll.g5 (by decide), h.ll.a1.same (gk _ 1 h.ll.g1 (by decide) (by decide)), (World.cell?_of_block (w := W) (gk _ 2 h.ll.g2 (by decide) (by decide))).trans h.ll.a2, ⟨a3.h, a3.s, a3.fi, a3.a, a3.nx, a3.qu, a3.la, a3.cn, a3.fz⟩, h.ll.a4.same (gk _ 4 h.ll.g4 (by decide) (by decide)), ?_, h.ll.k.same fun q hq => gk _ 6 (h.ll.gk q hq) (by decide) (by decide), h.ll.w.same fun q hq => gk _ 7 (h.ll.gw q hq) (by decide) (by decide), h.ll.d.same fun q hq => gk _ 8 (h.ll.gd q hq) (by decide) (by decide), h.ll.s.same fun q hq => gk _ 9 (h.ll.gs q hq) (by decide) (by decide), fun q hq => G' q 6 (h.ll.gk q hq) (by decide), fun q hq => G' q 7 (h.ll.gw q hq) (by decide), fun q hq => G' q 8 (h.ll.gd q hq) (by decide), fun q hq => G' q 9 (h.ll.gs q hq) (by decide)⟩, fun b hb => by have := h.bs b hb; omega, fun b hb => h.hi b (by omega), h.lo, fun b hb2 => ?_⟩, hb.os, hb.tape, hb.output, by omega, fun b hb2 => hk b (h.bs b hb2) (fun e => lmb.1 (e ▸ hb2))⟩
  · exact ⟨⟨v, World.cell?_setCell_same _ _ _ (later' hb c1), hnew⟩, ⟨v2, mbc 1 _ (by decide) c2, tr _ _ d2⟩, ⟨v3, mbc 2 _ (by decide) c3, tr _ _ d3⟩, fun j => (World.frozen?_setCell _ _ _ _).trans ((World.frozen?_of_block (w := W) (hb.block _ lmb.2.1)).trans (fz j))⟩
  · by_cases e : v.ownBlock = some b
    · have := own b e
      refine ⟨fun e2 => ?_, by omega, h.hi b this.1⟩
      have := h.bs b e2
      omega
    · have hb3 : G b ≠ 0 := by simpa only [if_neg e] using hb2
      have := h.gt b hb3
      exact ⟨this.1, by omega, this.2.2⟩
theorem Lx.ref_dq (h : Lx Kx S m u x T D R top L G vk vw vm vs W) (hb : Below W.heap.size W W2) {v : Value} {l : List (Int × Int)} (ho : W2.ownsRow W.heap.size 81 3 v l.length (flat3 l)) :
    Lm Kx S { m with dq := l } u (W2.setCell ⟨S.mb, 1, none⟩ v) ∧ Kp Kx W (W2.setCell ⟨S.mb, 1, none⟩ v) := by
  have lmb := h.gt S.mb (by rw [h.ll.g5]; decide)
  have s1 := hb.size
  have sz : (W2.setCell ⟨S.mb, 1, none⟩ v).heap.size = W2.heap.size := by simp [World.setCell]
  have hk : ∀ b, b < W.heap.size → b ≠ S.mb → (W2.setCell ⟨S.mb, 1, none⟩ v).heap[b]? = W.heap[b]? := fun b hl h1 => (Below.heap_setCell _ _ _ _ h1).trans (hb.block b hl)
  have hheap : ∀ b, b < W.heap.size → T b ≠ 1000 → (W2.setCell ⟨S.mb, 1, none⟩ v).heap[b]? = W.heap[b]? := fun b hl ht => hk b hl (fun e => ht (by rw [e]; exact lmb.2.2))
  obtain ⟨cb, cp, gg, htg, -⟩ := h.ha.1.rest
  have hl : HLies x T D R top m.par L (W2.setCell ⟨S.mb, 1, none⟩ v) := h.ha.1.butw hheap (by omega)
  have hA : At (W2.setCell ⟨S.mb, 1, none⟩ v) x.p x.d x.n D u := h.ha.2.move (hheap _ h.ha.2.lp (by rw [htg.p]; omega)) (hheap _ h.ha.2.ld (by rw [htg.d]; omega)) (by omega)
  have gk : ∀ b t, G b = t → t ≠ 0 → t ≠ 5 → (W2.setCell ⟨S.mb, 1, none⟩ v).heap[b]? = W.heap[b]? := fun b t hb h0 h5 => hk b (h.gt b (by omega)).2.1 (fun e => by have := h.ll.g5; rw [← e] at this; omega)
  have own : ∀ b, v.ownBlock = some b → W.heap.size ≤ b ∧ b < W2.heap.size := fun b e => ho.lt b e
  have G' : ∀ b t, G b = t → t ≠ 0 → (if v.ownBlock = some b then 10 else G b) = t := fun b t hb h0 => by
    rw [if_neg (fun e => by have := (own b e).1; have := (h.gt b (by omega)).2.1; omega)]
    exact hb
  have tr : ∀ v' l', DR G W v' l' → DR (fun b => if v.ownBlock = some b then 10 else G b) (W2.setCell ⟨S.mb, 1, none⟩ v) v' l' := fun v' l' hd => by
    obtain ⟨ao, cp2, e1, e2, e3⟩ := hd.same (W' := W2.setCell ⟨S.mb, 1, none⟩ v) (fun b hb => gk b 10 hb (by decide) (by decide))
    refine ⟨ao, cp2, e1, e2, fun h0 => ?_⟩
    obtain ⟨q, off, e4, e5, e6⟩ := e3 h0
    exact ⟨q, off, e4, G' q 10 e5 (by decide), e6⟩
  have mbc : ∀ (j : Nat) (v' : Value), j ≠ 1 → W.cell? ⟨S.mb, j, none⟩ = some v' → (W2.setCell ⟨S.mb, 1, none⟩ v).cell? ⟨S.mb, j, none⟩ = some v' := fun j v' hj hv => (World.cell?_setCell_other _ _ _ _ (fun e => hj (by cases e; rfl))).trans (later' hb hv)
  obtain ⟨⟨v1, c1, d1⟩, ⟨v2, c2, d2⟩, ⟨v3, c3, d3⟩, fz⟩ := h.ll.a5
  have hnew : DR (fun b => if v.ownBlock = some b then 10 else G b) (W2.setCell ⟨S.mb, 1, none⟩ v) v l := by
    obtain ⟨ao, cap, rfl, hcap⟩ := wown_slice ho
    refine ⟨ao, cap, rfl, hcap, fun h0 => ?_⟩
    rcases ho.2 with ⟨e, e2⟩ | ⟨g, cap', cur, e, hg, hbk, hr⟩
    · omega
    · cases e
      refine ⟨g, 0, rfl, if_pos rfl, fun j u hu => ?_⟩
      have := ho.cells rfl j u hu
      rw [Addr.add_lit] at this
      refine (World.cell?_setCell_other _ _ _ _ (fun e => ?_)).trans (by simpa using this)
      have e' := congrArg Addr.block e
      simp only at e'
      have := lmb.2.1
      omega
  have a3 := h.ll.a3.same (gk _ 3 h.ll.g3 (by decide) (by decide))
  refine ⟨⟨x, T, D, R, top, L, fun b => if v.ownBlock = some b then 10 else G b, vk, vw, vm, vs, h.xh, ⟨hl, hA⟩, h.hp, ⟨G' _ 1 h.ll.g1 (by decide), G' _ 2 h.ll.g2 (by decide), G' _ 3 h.ll.g3 (by decide), G' _ 4 h.ll.g4 (by decide), G' _ 5 h.ll.g5 (by decide), h.ll.a1.same (gk _ 1 h.ll.g1 (by decide) (by decide)), (World.cell?_of_block (w := W) (gk _ 2 h.ll.g2 (by decide) (by decide))).trans h.ll.a2, ⟨a3.h, a3.s, a3.fi, a3.a, a3.nx, a3.qu, a3.la, a3.cn, a3.fz⟩, h.ll.a4.same (gk _ 4 h.ll.g4 (by decide) (by decide)), ?_, h.ll.k.same fun q hq => gk _ 6 (h.ll.gk q hq) (by decide) (by decide), h.ll.w.same fun q hq => gk _ 7 (h.ll.gw q hq) (by decide) (by decide), h.ll.d.same fun q hq => gk _ 8 (h.ll.gd q hq) (by decide) (by decide), h.ll.s.same fun q hq => gk _ 9 (h.ll.gs q hq) (by decide) (by decide), fun q hq => G' q 6 (h.ll.gk q hq) (by decide), fun q hq => G' q 7 (h.ll.gw q hq) (by decide), fun q hq => G' q 8 (h.ll.gd q hq) (by decide), fun q hq => G' q 9 (h.ll.gs q hq) (by decide)⟩, fun b hb => by have := h.bs b hb; omega, fun b hb => h.hi b (by omega), h.lo, fun b hb2 => ?_⟩, hb.os, hb.tape, hb.output, by omega, fun b hb2 => hk b (h.bs b hb2) (fun e => lmb.1 (e ▸ hb2))⟩
  · exact ⟨⟨v1, mbc 0 _ (by decide) c1, tr _ _ d1⟩, ⟨v, World.cell?_setCell_same _ _ _ (later' hb c2), hnew⟩, ⟨v3, mbc 2 _ (by decide) c3, tr _ _ d3⟩, fun j => (World.frozen?_setCell _ _ _ _).trans ((World.frozen?_of_block (w := W) (hb.block _ lmb.2.1)).trans (fz j))⟩
  · by_cases e : v.ownBlock = some b
    · have := own b e
      refine ⟨fun e2 => ?_, by omega, h.hi b this.1⟩
      have := h.bs b e2
      omega
    · have hb3 : G b ≠ 0 := by simpa only [if_neg e] using hb2
      have := h.gt b hb3
      exact ⟨this.1, by omega, this.2.2⟩
theorem Lx.ref_dw (h : Lx Kx S m u x T D R top L G vk vw vm vs W) (hb : Below W.heap.size W W2) {v : Value} {l : List (Int × Int)} (ho : W2.ownsRow W.heap.size 81 3 v l.length (flat3 l)) :
    Lm Kx S { m with dw := l } u (W2.setCell ⟨S.mb, 2, none⟩ v) ∧ Kp Kx W (W2.setCell ⟨S.mb, 2, none⟩ v) := by
  have lmb := h.gt S.mb (by rw [h.ll.g5]; decide)
  have s1 := hb.size
  have sz : (W2.setCell ⟨S.mb, 2, none⟩ v).heap.size = W2.heap.size := by simp [World.setCell]
  have hk : ∀ b, b < W.heap.size → b ≠ S.mb → (W2.setCell ⟨S.mb, 2, none⟩ v).heap[b]? = W.heap[b]? := fun b hl h1 => (Below.heap_setCell _ _ _ _ h1).trans (hb.block b hl)
  have hheap : ∀ b, b < W.heap.size → T b ≠ 1000 → (W2.setCell ⟨S.mb, 2, none⟩ v).heap[b]? = W.heap[b]? := fun b hl ht => hk b hl (fun e => ht (by rw [e]; exact lmb.2.2))
  obtain ⟨cb, cp, gg, htg, -⟩ := h.ha.1.rest
  have hl : HLies x T D R top m.par L (W2.setCell ⟨S.mb, 2, none⟩ v) := h.ha.1.butw hheap (by omega)
  have hA : At (W2.setCell ⟨S.mb, 2, none⟩ v) x.p x.d x.n D u := h.ha.2.move (hheap _ h.ha.2.lp (by rw [htg.p]; omega)) (hheap _ h.ha.2.ld (by rw [htg.d]; omega)) (by omega)
  have gk : ∀ b t, G b = t → t ≠ 0 → t ≠ 5 → (W2.setCell ⟨S.mb, 2, none⟩ v).heap[b]? = W.heap[b]? := fun b t hb h0 h5 => hk b (h.gt b (by omega)).2.1 (fun e => by have := h.ll.g5; rw [← e] at this; omega)
  have own : ∀ b, v.ownBlock = some b → W.heap.size ≤ b ∧ b < W2.heap.size := fun b e => ho.lt b e
  have G' : ∀ b t, G b = t → t ≠ 0 → (if v.ownBlock = some b then 10 else G b) = t := fun b t hb h0 => by
    rw [if_neg (fun e => by have := (own b e).1; have := (h.gt b (by omega)).2.1; omega)]
    exact hb
  have tr : ∀ v' l', DR G W v' l' → DR (fun b => if v.ownBlock = some b then 10 else G b) (W2.setCell ⟨S.mb, 2, none⟩ v) v' l' := fun v' l' hd => by
    obtain ⟨ao, cp2, e1, e2, e3⟩ := hd.same (W' := W2.setCell ⟨S.mb, 2, none⟩ v) (fun b hb => gk b 10 hb (by decide) (by decide))
    refine ⟨ao, cp2, e1, e2, fun h0 => ?_⟩
    obtain ⟨q, off, e4, e5, e6⟩ := e3 h0
    exact ⟨q, off, e4, G' q 10 e5 (by decide), e6⟩
  have mbc : ∀ (j : Nat) (v' : Value), j ≠ 2 → W.cell? ⟨S.mb, j, none⟩ = some v' → (W2.setCell ⟨S.mb, 2, none⟩ v).cell? ⟨S.mb, j, none⟩ = some v' := fun j v' hj hv => (World.cell?_setCell_other _ _ _ _ (fun e => hj (by cases e; rfl))).trans (later' hb hv)
  obtain ⟨⟨v1, c1, d1⟩, ⟨v2, c2, d2⟩, ⟨v3, c3, d3⟩, fz⟩ := h.ll.a5
  have hnew : DR (fun b => if v.ownBlock = some b then 10 else G b) (W2.setCell ⟨S.mb, 2, none⟩ v) v l := by
    obtain ⟨ao, cap, rfl, hcap⟩ := wown_slice ho
    refine ⟨ao, cap, rfl, hcap, fun h0 => ?_⟩
    rcases ho.2 with ⟨e, e2⟩ | ⟨g, cap', cur, e, hg, hbk, hr⟩
    · omega
    · cases e
      refine ⟨g, 0, rfl, if_pos rfl, fun j u hu => ?_⟩
      have := ho.cells rfl j u hu
      rw [Addr.add_lit] at this
      refine (World.cell?_setCell_other _ _ _ _ (fun e => ?_)).trans (by simpa using this)
      have e' := congrArg Addr.block e
      simp only at e'
      have := lmb.2.1
      omega
  have a3 := h.ll.a3.same (gk _ 3 h.ll.g3 (by decide) (by decide))
  refine ⟨⟨x, T, D, R, top, L, fun b => if v.ownBlock = some b then 10 else G b, vk, vw, vm, vs, h.xh, ⟨hl, hA⟩, h.hp, ⟨G' _ 1 h.ll.g1 (by decide), G' _ 2 h.ll.g2 (by decide), G' _ 3 h.ll.g3 (by decide), G' _ 4 h.ll.g4 (by decide), G' _ 5 h.ll.g5 (by decide), h.ll.a1.same (gk _ 1 h.ll.g1 (by decide) (by decide)), (World.cell?_of_block (w := W) (gk _ 2 h.ll.g2 (by decide) (by decide))).trans h.ll.a2, ⟨a3.h, a3.s, a3.fi, a3.a, a3.nx, a3.qu, a3.la, a3.cn, a3.fz⟩, h.ll.a4.same (gk _ 4 h.ll.g4 (by decide) (by decide)), ?_, h.ll.k.same fun q hq => gk _ 6 (h.ll.gk q hq) (by decide) (by decide), h.ll.w.same fun q hq => gk _ 7 (h.ll.gw q hq) (by decide) (by decide), h.ll.d.same fun q hq => gk _ 8 (h.ll.gd q hq) (by decide) (by decide), h.ll.s.same fun q hq => gk _ 9 (h.ll.gs q hq) (by decide) (by decide), fun q hq => G' q 6 (h.ll.gk q hq) (by decide), fun q hq => G' q 7 (h.ll.gw q hq) (by decide), fun q hq => G' q 8 (h.ll.gd q hq) (by decide), fun q hq => G' q 9 (h.ll.gs q hq) (by decide)⟩, fun b hb => by have := h.bs b hb; omega, fun b hb => h.hi b (by omega), h.lo, fun b hb2 => ?_⟩, hb.os, hb.tape, hb.output, by omega, fun b hb2 => hk b (h.bs b hb2) (fun e => lmb.1 (e ▸ hb2))⟩
  · exact ⟨⟨v1, mbc 0 _ (by decide) c1, tr _ _ d1⟩, ⟨v2, mbc 1 _ (by decide) c2, tr _ _ d2⟩, ⟨v, World.cell?_setCell_same _ _ _ (later' hb c3), hnew⟩, fun j => (World.frozen?_setCell _ _ _ _).trans ((World.frozen?_of_block (w := W) (hb.block _ lmb.2.1)).trans (fz j))⟩
  · by_cases e : v.ownBlock = some b
    · have := own b e
      refine ⟨fun e2 => ?_, by omega, h.hi b this.1⟩
      have := h.bs b e2
      omega
    · have hb3 : G b ≠ 0 := by simpa only [if_neg e] using hb2
      have := h.gt b hb3
      exact ⟨this.1, by omega, this.2.2⟩
end
end Go.Proofs.Ythliahaopelooaa
/- The law's own steps: the document's Add. -/
namespace Go.Proofs.Ythliahaopelooaa
open Go.RowKit
theorem wown_one (w : World) (base : Nat) (hb : base ≤ w.heap.size) (a b c : Value) : (w.alloc (.cells #[a, b, c] 81)).ownsRow base 81 3 (.slice (some ⟨w.heap.size, 0, none⟩) 1 1) 1 [a, b, c] := by
  refine ⟨by simp, .inr ⟨w.heap.size, 1, #[a, b, c], rfl, hb, heap_alloc_new w _, by decide, by decide, by simp, ?_⟩⟩
  simp
section
variable {Kx : Nat → Prop} {S : LSp} {m : LM} {u : Int} {W : World}
set_option maxHeartbeats 4000000 in
set_option maxRecDepth 100000 in
theorem wrefadd_any (h : Lm Kx S m u W) (p n : Int) (hl : m.dr.length < 1000) :
    Calls Try.prog 33 #[.pointer (some ⟨S.mb, 0, none⟩), .agg #[.int .i64 p, .int .i64 n, .bool false]] W (Aft Kx S { m with dr := (p, n) :: m.dr } u 0 (.tuple #[]) W) := by
  have hb0 : Below W.heap.size W (W.alloc (.cells #[.int .i64 p, .int .i64 n, .bool false] 81)) := (Below.refl _ _).alloc (Nat.le_refl _) _
  have b0 : (W.alloc (.cells #[.int .i64 p, .int .i64 n, .bool false] 81)).cell? ⟨W.heap.size, 0, none⟩ = some (.int .i64 p) := by simp [go_sem]
  have b1 : (W.alloc (.cells #[.int .i64 p, .int .i64 n, .bool false] 81)).cell? ⟨W.heap.size, 1, none⟩ = some (.int .i64 n) := by simp [go_sem]
  have b2 : (W.alloc (.cells #[.int .i64 p, .int .i64 n, .bool false] 81)).cell? ⟨W.heap.size, 2, none⟩ = some (.bool false) := by simp [go_sem]
  obtain ⟨x, T, D, R, top, L, G, vk, vw, vm, vs, h⟩ := h
  have lmb := (h.gt S.mb (by rw [h.ll.g5]; decide)).2.1
  obtain ⟨v0, c0, d0⟩ := h.ll.a5.r
  have z0 := h.ll.a5.fz 0
  have HH := Lib.hid h
  have HB := Lib.hid (fun V (hV : Below W.heap.size W V) => (show V.cell? ⟨S.mb, 0, none⟩ = some v0 ∧ V.frozen? ⟨S.mb, 0, none⟩ = false ∧ DR G V v0 m.dr from ⟨later' hV c0, (World.frozen?_of_block (w := W) (hV.block _ lmb)).trans z0, d0.same fun b hb => hV.block b (h.gt b (by omega)).2.1⟩))
  obtain ⟨ao, cap, hv0, -⟩ := d0
  subst hv0
  have lz : (W.alloc (.cells #[.int .i64 p, .int .i64 n, .bool false] 81)).heap.size = W.heap.size + 1 := by simp
  have HZ := Lib.hid (And.intro hb0 lz)
  clear h c0 z0 hb0 lz
  go_enter Try.func33, Try.ntmps33
  go_upto_region 1 with fail
  generalize (W.alloc (.cells #[.int .i64 p, .int .i64 n, .bool false] 81)) = W1 at *
  have hdr : Below W1.heap.size W1 W1.drew := (Below.refl _ _).drew
  have hb2 : Below W1.heap.size W1 (W1.drew.alloc (.cells #[.int .i64 p, .int .i64 n, .bool false] 81)) := hdr.alloc (Nat.le_refl _) _
  have hb3 : Below W1.heap.size W1 (W1.alloc (.cells #[.int .i64 p, .int .i64 n, .bool false] 81)) := (Below.refl _ _).alloc (Nat.le_refl _) _
  have hown := wown_one W1.drew W.heap.size (by have := HZ.out.2; show W.heap.size ≤ W1.heap.size; omega) (.int .i64 p) (.int .i64 n) (.bool false)
  have hD := (HB.out _ (HZ.out.1.trans (hb2.mono HZ.out.1.size))).2.2
  have hlt2 : W.heap.size ≤ (W1.drew.alloc (.cells #[.int .i64 p, .int .i64 n, .bool false] 81)).heap.size := by have := HZ.out.2; simp; omega
  have HO := Lib.hid (And.intro hown (And.intro hD (And.intro hlt2 hb2)))
  have e0 := later' hdr b0
  have e1 := later' hdr b1
  have e2 := later' hdr b2
  have c0 := (HB.out _ (HZ.out.1.trans (hdr.mono HZ.out.1.size))).1
  have k0 := later' hb3 b0
  have k1 := later' hb3 b1
  have k2 := later' hb3 b2
  have k3 := (HB.out _ (HZ.out.1.trans (hb3.mono HZ.out.1.size))).1
  clear hown hD hlt2 hdr hb2 hb3
  go_region_law (refine wstep_dr rfl (.tmp 6) (.tmp 10) rfl (W1.drew.alloc (.cells #[.int .i64 p, .int .i64 n, .bool false] 81)) W.heap.size 1 (.slice (some ⟨W1.heap.size, 0, none⟩) 1 1) _ rfl HO.out.1 G (.slice ao m.dr.length cap) m.dr rfl HO.out.2.1 (by omega) HO.out.2.2.1 ?_; intro a9 cap9 w9 o1 o2; have hb9 : Below W1.heap.size W1 w9 := HO.out.2.2.2.grown o2 (by simp) (fun j e => by cases e; exact Nat.le_refl _); have hd9 := HB.out w9 (HZ.out.1.trans (hb9.mono HZ.out.1.size)); have f0 := hd9.1; have f1 := hd9.2.1)
  all_goals
    have hf := HH.out.ref_dr (HZ.out.1.trans (hb9.mono HZ.out.1.size)) (v := .slice a9 (1 + m.dr.length) cap9) (l := (p, n) :: m.dr) (by rw [List.length_cons, show m.dr.length + 1 = 1 + m.dr.length from Nat.add_comm _ _]; exact o1)
    refine bodyPost_end (v := .tuple #[]) (by simp [results, Try.results33, go_sem]) rfl ?_
    exact ⟨rfl, u, hf.1, hf.2, Us.refl u⟩
end
end Go.Proofs.Ythliahaopelooaa
/- The law's own steps: one more weak pointer. -/
namespace Go.Proofs.Ythliahaopelooaa
open Go.RowKit
/-- Three objects more, and what is told of them. -/
def grow3 (m : LM) (k f a : Int) : LM :=
  { m with O := ((m.O ++ [⟨k, 7, 1, 0, m.par⟩]) ++ [⟨f, 7, 1, 1, m.par⟩]) ++ [⟨a, 9, 4, m.weaks.length, m.par⟩], V := vset (vset (vset (vnew (vnew (vnew m.V k) f) a) a 0 k) a 1 f) a 2 f, keys := m.keys ++ [k], weaks := m.weaks ++ [a], marked := m.marked ++ [a], dr := (a, (m.weaks.length : Int)) :: m.dr }
/-- What add leaves. -/
def AddSaid (Kx : Nat → Prop) (S : LSp) (m : LM) (W : World) (e : Ending) (w' : World) : Prop :=
  e = .returned (.bool true) ∧ ∃ k f a, (∃ u', Lm Kx S (added (grow3 m k f a) a) u' w') ∧ Kp Kx W w' ∧ (∀ o, o ∈ m.O → o.p ≠ k ∧ o.p ≠ f ∧ o.p ≠ a) ∧ k ≠ f ∧ k ≠ a ∧ f ≠ a ∧ 1 ≤ k ∧ 1 ≤ f ∧ 1 ≤ a
section
variable {Kx : Nat → Prop} {S : LSp} {m : LM} {u : Int} {W : World}
set_option maxHeartbeats 16000000 in
set_option maxRecDepth 100000 in
theorem ladd_any (h : Lm Kx S m u W) {row queue : List Int} (ht : Tbl m row queue) (hO : m.O.length < 350) (hw : m.weaks.length < 200) (hk : m.keys.length < 200) (hm : m.marked.length < 1000) (hd : m.dr.length < 900) (hl : m.dom.length < 1000) :
    Calls Try.prog 10 #[.pointer (some ⟨S.wb, 0, none⟩)] W (AddSaid Kx S m W) := by
  obtain ⟨i0, hi0, hz0, hzs, hzb⟩ := info_parts Try.info_intw
  have HM := Lib.hid (And.intro hO (And.intro hw (And.intro hk (And.intro hm (And.intro hd hl)))))
  have HT := Lib.hid ht
  have hpar := lm_par h
  have hf1 : Ce.Fit 7 1 0 m.par := ⟨by omega, by omega, by omega, by omega⟩
  have hf2 : Ce.Fit 7 1 1 m.par := ⟨by omega, by omega, by omega, by omega⟩
  have hf3 : Ce.Fit 9 4 m.weaks.length m.par := ⟨by omega, by omega, by omega, by omega⟩
  have HF := Lib.hid (And.intro hf1 (And.intro hf2 hf3))
  have HA1 := Lib.hid (lm_alloc h (by omega) 7 0 1)
  obtain ⟨x, T, D, R, top, L, G, vk, vw, vm, vs, hx⟩ := h
  have c0 := hx.ll.a1.h
  clear hx hO hw hk hm hd hl ht hpar hf1 hf2 hf3
  go_enter Try.func10, Try.ntmps10
  go_wp2_with fail
  refine HA1.out.mono ?_
  rintro e w1 (⟨er, h0, he, hl, hb, hn⟩ | ⟨k, rfl, ⟨u1, hl1⟩, hb1, hn1, k1, k2, -⟩)
  · exact absurd ⟨HF.out.1, by decide⟩ hn
  have H1 := Lib.hid (And.intro hl1 (And.intro hb1 (And.intro hn1 (And.intro k1 k2))))
  have HA2 := Lib.hid (lm_alloc hl1 (by have := HM.out.1; simp; omega) 7 1 1)
  obtain ⟨x1, T1, D1, R1, top1, L1, G1, vk1, vw1, vm1, vs1, hx1⟩ := hl1
  replace c0 := hx1.ll.a1.h
  clear hx1 hb1 hn1 HA1 k1 k2
  go_wp2_with fail
  refine HA2.out.mono ?_
  rintro e w2 (⟨er, h0, he, hl, hb, hn⟩ | ⟨f, rfl, ⟨u2, hl2⟩, hb2, hn2, f1, f2, -⟩)
  · exact absurd ⟨HF.out.2.1, by decide⟩ hn
  have H2 := Lib.hid (And.intro hl2 (And.intro (H1.out.2.1.trans hb2) (And.intro hn2 (And.intro f1 f2))))
  have HA3 := Lib.hid (lm_alloc hl2 (by have := HM.out.1; simp; omega) 9 m.weaks.length 4)
  obtain ⟨x2, T2, D2, R2, top2, L2, G2, vk2, vw2, vm2, vs2, hx2⟩ := hl2
  replace c0 := hx2.ll.a1.h
  have c4 := hx2.ll.a1.w
  obtain ⟨a4, p4, rfl, -⟩ := wown_slice hx2.ll.w
  clear hx2 hb2 hn2 HA2 f1 f2
  go_wp2_with fail
  refine HA3.out.mono ?_
  rintro e w3 (⟨er, h0, he, hl, hb, hn⟩ | ⟨a, rfl, ⟨u3, hl3⟩, hb3, hn3, a1, a2, -⟩)
  · exact absurd ⟨HF.out.2.2, by decide⟩ hn
  have hne1 : ∀ o, o ∈ m.O → o.p ≠ k ∧ o.p ≠ f ∧ o.p ≠ a := fun o ho => ⟨H1.out.2.2.1 o ho, H2.out.2.2.1 o (List.mem_append_left _ ho), hn3 o (List.mem_append_left _ (List.mem_append_left _ ho))⟩
  have hkf : k ≠ f := H2.out.2.2.1 ⟨k, 7, 1, 0, m.par⟩ (List.mem_append_right _ (List.mem_singleton.2 rfl))
  have hka : k ≠ a := hn3 ⟨k, 7, 1, 0, m.par⟩ (List.mem_append_left _ (List.mem_append_right _ (List.mem_singleton.2 rfl)))
  have hfa : f ≠ a := hn3 ⟨f, 7, 1, 1, m.par⟩ (List.mem_append_right _ (List.mem_singleton.2 rfl))
  have HN := Lib.hid (And.intro hne1 (And.intro hkf (And.intro hka (And.intro hfa (And.intro H1.out.2.2.2.1 (And.intro H2.out.2.2.2.1 a1))))))
  have bk := H1.out.2.2.2
  have bf := H2.out.2.2.2
  have hoa : (⟨a, 9, 4, (m.weaks.length : Int), m.par⟩ : Ob) ∈ ((m.O ++ [⟨k, 7, 1, 0, m.par⟩]) ++ [⟨f, 7, 1, 1, m.par⟩]) ++ [(⟨a, 9, 4, (m.weaks.length : Int), m.par⟩ : Ob)] := List.mem_append_right _ (List.mem_singleton.2 rfl)
  have H3 := Lib.hid (And.intro hl3 (H2.out.2.1.trans hb3))
  have HS1 := Lib.hid (lm_set hl3 hoa (j := 0) (by decide) (by show (0 : Int) < 4; decide) k)
  obtain ⟨x3, T3, D3, R3, top3, L3, G3, vk3, vw3, vm3, vs3, hx3⟩ := hl3
  replace c0 := hx3.ll.a1.h
  clear hx3 hb3 hn3 HA3 hne1 hkf hka hfa c4 H2 H1
  have ek : IntKind.i64.wrap k = k := by rw [IntKind.wrap_i64]; omega
  have ef : IntKind.i64.wrap f = f := by rw [IntKind.wrap_i64]; omega
  clear bk bf
  go_wp2_with fail
  refine HS1.out.mono ?_
  rintro e w4 ⟨rfl, u4, hl4, hb4, -⟩
  have H4 := Lib.hid (And.intro hl4 (H3.out.2.trans hb4))
  have HS2 := Lib.hid (lm_set hl4 hoa (j := 1) (by decide) (by show (1 : Int) < 4; decide) f)
  obtain ⟨x4, T4, D4, R4, top4, L4, G4, vk4, vw4, vm4, vs4, hx4⟩ := hl4
  replace c0 := hx4.ll.a1.h
  clear hx4 hb4 HS1 H3
  go_wp2_with fail
  refine HS2.out.mono ?_
  rintro e w5 ⟨rfl, u5, hl5, hb5, -⟩
  have H5 := Lib.hid (And.intro hl5 (H4.out.2.trans hb5))
  have HS3 := Lib.hid (lm_set hl5 hoa (j := 2) (by decide) (by show (2 : Int) < 4; decide) f)
  obtain ⟨x5, T5, D5, R5, top5, L5, G5, vk5, vw5, vm5, vs5, hx5⟩ := hl5
  replace c0 := hx5.ll.a1.h
  clear hx5 hb5 HS2 H4
  go_wp2_with fail
  refine HS3.out.mono ?_
  rintro e w6 ⟨rfl, u6, hl6, hb6, -⟩
  have HV6 := Lib.hid (And.intro hl6 (H5.out.2.trans hb6))
  clear hl6 hb6 HS3 H5 c0
  obtain ⟨y0, T70, D70, R70, top70, L70, G70, vk, vw, vm, vs, hx0⟩ := HV6.out.1
  have c3 := hx0.ll.a1.k
  have hb0 : Below w6.heap.size w6 (w6.alloc (.cells #[.int .i64 k] 3)) := (Below.refl _ _).alloc (Nat.le_refl _) _
  have ho0 : (w6.alloc (.cells #[.int .i64 k] 3)).ownsRow 0 3 1 vk m.keys.length (m.keys.map (.int .i64)) := hx0.ll.k.alloc _
  have HX0 := Lib.hid (And.intro hx0 (And.intro hb0 ho0))
  have hlen0 : m.keys.length < 1000 := by have := HM.out; omega
  clear hx0 hb0 ho0
  go_upto_region 11 with (at_builtin; refine wpList_append_lies _ rfl _ _ 22 rfl 0 3 i0 (.int .i64 0) 1 8 Try.underlying22 hi0 hz0 hzs hzb rfl (by decide) vk m.keys.length (m.keys.map (.int .i64)) rfl HX0.out.2.2 ⟨w6.heap.size, 0, none⟩ 1 1 [.int .i64 k] rfl rfl (World.news_of_block (heap_alloc_new _ _)) (by intro u hu; simp at hu; subst hu; rfl) (by decide) (by unfold maxLen; omega) (by omega) (by simp) _ rfl ?_; intro g9 cap9 w9 o1 o2 o3 o4; have d3 := (HX0.out.1.wb_kept HX0.out.2.1 o2 (fun g e => by have := HX0.out.1.ll.gk g e; omega)).1.k; have z3 := (HX0.out.1.wb_kept HX0.out.2.1 o2 (fun g e => by have := HX0.out.1.ll.gk g e; omega)).1.fz 3)
  have hp0 := HX0.out.1.push_keys HX0.out.2.1 o1 o2 o3
  have HV7 := Lib.hid (And.intro hp0.1 (HV6.out.2.trans hp0.2))
  clear hp0 o1 o2 o3 o4 d3 z3 c3 HX0 HV6
  generalize (w9.setCell ⟨S.wb, 3, none⟩ (.slice (some ⟨g9, 0, none⟩) (m.keys.length + 1) cap9)) = w70 at *
  clear w9
  obtain ⟨y1, T71, D71, R71, top71, L71, G71, vk, vw, vm, vs, hx1⟩ := HV7.out.1
  have c4 := hx1.ll.a1.w
  have hb1 : Below w70.heap.size w70 (w70.alloc (.cells #[.int .i64 a] 3)) := (Below.refl _ _).alloc (Nat.le_refl _) _
  have ho1 : (w70.alloc (.cells #[.int .i64 a] 3)).ownsRow 0 3 1 vw m.weaks.length (m.weaks.map (.int .i64)) := hx1.ll.w.alloc _
  have HX1 := Lib.hid (And.intro hx1 (And.intro hb1 ho1))
  have hlen1 : m.weaks.length < 1000 := by have := HM.out; omega
  clear hx1 hb1 ho1
  go_upto_region 12 with (at_builtin; refine wpList_append_lies _ rfl _ _ 22 rfl 0 3 i0 (.int .i64 0) 1 8 Try.underlying22 hi0 hz0 hzs hzb rfl (by decide) vw m.weaks.length (m.weaks.map (.int .i64)) rfl HX1.out.2.2 ⟨w70.heap.size, 0, none⟩ 1 1 [.int .i64 a] rfl rfl (World.news_of_block (heap_alloc_new _ _)) (by intro u hu; simp at hu; subst hu; rfl) (by decide) (by unfold maxLen; omega) (by omega) (by simp) _ rfl ?_; intro g9 cap9 w9 o1 o2 o3 o4; have d4 := (HX1.out.1.wb_kept HX1.out.2.1 o2 (fun g e => by have := HX1.out.1.ll.gw g e; omega)).1.w; have z4 := (HX1.out.1.wb_kept HX1.out.2.1 o2 (fun g e => by have := HX1.out.1.ll.gw g e; omega)).1.fz 4)
  have hp1 := HX1.out.1.push_weaks HX1.out.2.1 o1 o2 o3
  have HV8 := Lib.hid (And.intro hp1.1 (HV7.out.2.trans hp1.2))
  clear hp1 o1 o2 o3 o4 d4 z4 c4 HX1 HV7
  generalize (w9.setCell ⟨S.wb, 4, none⟩ (.slice (some ⟨g9, 0, none⟩) (m.weaks.length + 1) cap9)) = w71 at *
  clear w9
  obtain ⟨y2, T72, D72, R72, top72, L72, G72, vk, vw, vm, vs, hx2⟩ := HV8.out.1
  have c5 := hx2.ll.a1.d
  have hb2 : Below w71.heap.size w71 (w71.alloc (.cells #[.int .i64 a] 3)) := (Below.refl _ _).alloc (Nat.le_refl _) _
  have ho2 : (w71.alloc (.cells #[.int .i64 a] 3)).ownsRow 0 3 1 vm m.marked.length (m.marked.map (.int .i64)) := hx2.ll.d.alloc _
  have HX2 := Lib.hid (And.intro hx2 (And.intro hb2 ho2))
  have hlen2 : m.marked.length < 1000 := by have := HM.out; omega
  clear hx2 hb2 ho2
  go_upto_region 13 with (at_builtin; refine wpList_append_lies _ rfl _ _ 22 rfl 0 3 i0 (.int .i64 0) 1 8 Try.underlying22 hi0 hz0 hzs hzb rfl (by decide) vm m.marked.length (m.marked.map (.int .i64)) rfl HX2.out.2.2 ⟨w71.heap.size, 0, none⟩ 1 1 [.int .i64 a] rfl rfl (World.news_of_block (heap_alloc_new _ _)) (by intro u hu; simp at hu; subst hu; rfl) (by decide) (by unfold maxLen; omega) (by omega) (by simp) _ rfl ?_; intro g9 cap9 w9 o1 o2 o3 o4; have d5 := (HX2.out.1.wb_kept HX2.out.2.1 o2 (fun g e => by have := HX2.out.1.ll.gd g e; omega)).1.d; have z5 := (HX2.out.1.wb_kept HX2.out.2.1 o2 (fun g e => by have := HX2.out.1.ll.gd g e; omega)).1.fz 5)
  have hp2 := HX2.out.1.push_marked HX2.out.2.1 o1 o2 o3
  have HV9 := Lib.hid (And.intro hp2.1 (HV8.out.2.trans hp2.2))
  clear hp2 o1 o2 o3 o4 d5 z5 c5 HX2 HV8
  generalize (w9.setCell ⟨S.wb, 5, none⟩ (.slice (some ⟨g9, 0, none⟩) (m.marked.length + 1) cap9)) = w72 at *
  clear w9
  have HD := Lib.hid (wrefadd_any HV9.out.1 a m.weaks.length (by have := HM.out; simp only; omega))
  obtain ⟨x9, T9, D9, R9, top9, L9, G9, vk9, vw9, vm9, vs9, hx9⟩ := HV9.out.1
  have c2 := hx9.ll.a1.m
  clear hx9
  go_wp2_with fail
  refine HD.out.mono ?_
  rintro e w10 ⟨rfl, u10, hl10, hb10, -⟩
  have hg : ({ ({ m with O := ((m.O ++ [⟨k, 7, 1, 0, m.par⟩]) ++ [⟨f, 7, 1, 1, m.par⟩]) ++ [⟨a, 9, 4, m.weaks.length, m.par⟩], V := vset (vset (vset (vnew (vnew (vnew m.V k) f) a) a 0 k) a 1 f) a 2 f, keys := m.keys ++ [k], weaks := m.weaks ++ [a], marked := m.marked ++ [a] } : LM) with dr := (a, (m.weaks.length : Int)) :: m.dr } : LM) = grow3 m k f a := rfl
  have hl10' : Lm Kx S (grow3 m k f a) u10 w10 := hl10
  have hpn : ∀ p, p ∈ row ∨ p ∈ queue → p ≠ a := fun p hp => by
    obtain ⟨q, q1, q2, q3⟩ := HT.out.ob p hp
    rw [← q2]
    exact (HN.out.1 q q1).2.2
  have hpk : ∀ p, p ∈ row ∨ p ∈ queue → p ≠ k := fun p hp => by
    obtain ⟨q, q1, q2, q3⟩ := HT.out.ob p hp
    rw [← q2]
    exact (HN.out.1 q q1).1
  have hpf : ∀ p, p ∈ row ∨ p ∈ queue → p ≠ f := fun p hp => by
    obtain ⟨q, q1, q2, q3⟩ := HT.out.ob p hp
    rw [← q2]
    exact (HN.out.1 q q1).2.1
  have ht2 : Tbl (grow3 m k f a) row queue := HT.out.other ⟨rfl, rfl, rfl, rfl, rfl, rfl⟩ (fun p hp => by
    show vset (vset (vset (vnew (vnew (vnew m.V k) f) a) a 0 k) a 1 f) a 2 f p 3 = m.V p 3
    rw [vset_other (Or.inl (hpn p hp)), vset_other (Or.inl (hpn p hp)), vset_other (Or.inl (hpn p hp)), vnew_other (hpn p hp), vnew_other (hpf p hp), vnew_other (hpk p hp)]) (fun o ho => ⟨o, List.mem_append_left _ (List.mem_append_left _ (List.mem_append_left _ ho)), rfl, rfl⟩)
  have HAd := Lib.hid (wadd_in hl10' ht2 hoa rfl rfl (fun hmem => by
    rcases List.mem_append.1 hmem with h1 | h1
    · exact hpn a (Or.inl h1) rfl
    · exact hpn a (Or.inr h1) rfl) (by have := HM.out; show m.dom.length < 80000; omega))
  have H10 := Lib.hid (HV9.out.2.trans hb10)
  obtain ⟨x10, T10, D10, R10, top10, L10, G10, vk10, vw10, vm10, vs10, hx10⟩ := hl10'
  have c1 := hx10.ll.a1.t
  clear hx10 hl10 hb10 HD HV9 c2 hpn hpk hpf ht2 hg
  go_wp2_with fail
  refine HAd.out.mono ?_
  rintro e w11 ⟨rfl, u11, hl11, hb11, -⟩
  have H11 := Lib.hid (And.intro hl11 (H10.out.trans hb11))
  clear hl11 hb11 HAd H10 c1
  go_wp2_with fail
  go_ret
  exact ⟨rfl, k, f, a, ⟨u11, H11.out.1⟩, H11.out.2, HN.out⟩
end
end Go.Proofs.Ythliahaopelooaa
/- The law's own steps: a world is made. -/
namespace Go.Proofs.Ythliahaopelooaa
open Go.RowKit
def m0 : LM := ⟨0, false, [], fun _ _ => 0, 0, 0, 0, 0, 0, fun _ => 0, [], [], [], [], [], [], [], []⟩
def one4 (i : Nat) : Int := if i = 0 then 1 else 4
theorem one4_rise : Rise one4 2 := fun i hi => by
  obtain rfl | rfl : i = 0 ∨ i = 1 := by omega
  · decide
  · decide
theorem one4_sz : ∀ i, i < 2 → 1 ≤ one4 i ∧ one4 i ≤ 24 := fun i hi => by
  obtain rfl | rfl : i = 0 ∨ i = 1 := by omega
  · decide
  · decide
theorem m0_tbl : Tbl m0 [] [] := ⟨rfl, trivial, trivial, fun _ => Iff.rfl, List.nodup_nil, rfl, rfl, rfl, rfl, trivial, List.nodup_nil, fun p hp => by (rcases hp with h | h <;> cases h), fun p hp => by (rcases hp with h | h <;> cases h)⟩
theorem wfunc_eq (f : FuncId) (first cap : Array Value) (W : World) : (binOp .eql 77 (.func (.func f) first cap) .nilFunc).run Try.prog W = .ok (.bool false) W := by kernel_rfl
/-- Behind New of a table. -/
def wTab (hb cb : Nat) (W : World) : World := (W.alloc (.map #[] 0)).alloc (.cells #[.pointer (some ⟨hb, 0, none⟩), .func (.func 31) #[] #[.pointer (some ⟨cb, 0, none⟩)], .int .i64 0, .map (some W.heap.size), .int .i64 0, .int .i64 0, .int .i64 0, .int .i64 0] 87)
set_option maxHeartbeats 1000000 in
theorem wnew_any (hb cb : Nat) (W : World) : Calls Try.prog 30 #[.pointer (some ⟨hb, 0, none⟩), .func (.func 31) #[] #[.pointer (some ⟨cb, 0, none⟩)]] W fun e w' => e = .returned (.pointer (some ⟨W.heap.size + 1, 0, none⟩)) ∧ w' = wTab hb cb W := by
  have hq := wfunc_eq 31 #[] #[.pointer (some ⟨cb, 0, none⟩)]
  have hmm := @run_makeMap Try.prog
  go_enter Try.func30, Try.ntmps30
  go_wp2_with fail
  go_ret
  exact ⟨rfl, rfl⟩
/-- Behind the boxes of made. -/
def wBox (hb : Nat) (W : World) : World := ((W.alloc (.cells #[.slice none 0 0, .slice none 0 0, .slice none 0 0] 75)).alloc (.cells #[.pointer (some ⟨hb, 0, none⟩), .pointer none, .pointer (some ⟨W.heap.size, 0, none⟩), .slice none 0 0, .slice none 0 0, .slice none 0 0, .slice none 0 0] 33)).alloc (.cells #[.pointer (some ⟨W.heap.size + 1, 0, none⟩)] 24)
def wEnd (hb : Nat) (W : World) : World := ((wTab hb (W.heap.size + 2) (wBox hb W).drew).setCell ⟨W.heap.size + 1, 1, none⟩ (.pointer (some ⟨W.heap.size + 4, 0, none⟩))).drew
theorem wEnd_size (hb : Nat) (W : World) : (wEnd hb W).heap.size = W.heap.size + 5 := by simp [wEnd, wTab, wBox, World.setCell]
theorem wEnd_below (hb : Nat) (W : World) : Below W.heap.size W (wEnd hb W) := by
  have h1 : Below W.heap.size W (wBox hb W) := (((Below.refl _ _).alloc (Nat.le_refl _) _).alloc (by simp) _).alloc (by simp; omega) _
  have h2 : Below W.heap.size W (wTab hb (W.heap.size + 2) (wBox hb W).drew) := (h1.drew.alloc (by simp [wBox]; omega) _).alloc (by simp [wBox]; omega) _
  exact (h2.setCell (by simp only; omega) _).drew
set_option maxHeartbeats 4000000 in
theorem made_lm {x : HSpot} {T : Nat → Nat} {W w1 : World} {L : List (Int × Int)} (h : HLies x T (fun _ => 0) (fun _ => none4) 1 0 L w1) (hp : Hp x (fun _ => 0) (fun _ => none4) 1 0 L false [] (fun _ _ => 0)) (hT : ∀ b, b < W.heap.size → T b = 1000) (hs : W.heap.size ≤ w1.heap.size) :
    ∃ u, Lm (fun b => b < W.heap.size) ⟨x.h, w1.heap.size + 1, w1.heap.size + 2, w1.heap.size + 4, w1.heap.size + 3, w1.heap.size⟩ m0 u (wEnd x.h w1) := by
  obtain ⟨hr, -⟩ := h.retag
  obtain ⟨u, hu⟩ := (hr.later (wEnd_below x.h w1)).ha
  have sz := wEnd_size x.h w1
  have hcm : CMap (wEnd x.h w1) (w1.heap.size + 3) 0 (fun _ => 0) [] := by
    have h0 := cmap_made (wBox x.h w1).drew
    have e0 : (wBox x.h w1).drew.heap.size = w1.heap.size + 3 := by simp [wBox]
    rw [e0] at h0
    have hb : Below (w1.heap.size + 4) ((wBox x.h w1).drew.alloc (.map #[] 0)) (wTab x.h (w1.heap.size + 2) (wBox x.h w1).drew) := (Below.refl _ _).alloc (by simp [wBox]) _
    refine (h0.same (hb.block _ (by omega))).same ?_
    exact (Below.heap_setCell _ _ _ _ (show w1.heap.size + 3 ≠ w1.heap.size + 1 by omega))
  refine ⟨u, x, _, _, _, _, L, fun b => if b = w1.heap.size + 1 then 1 else if b = w1.heap.size + 2 then 2 else if b = w1.heap.size + 4 then 3 else if b = w1.heap.size + 3 then 4 else if b = w1.heap.size then 5 else 0, .slice none 0 0, .slice none 0 0, .slice none 0 0, .slice none 0 0, rfl, hu, hp, ⟨?_, ?_, ?_, ?_, ?_, ⟨?_, ?_, ?_, ?_, ?_, ?_, ?_, ?_⟩, ?_, ⟨?_, ?_, ?_, ?_, ?_, ?_, ?_, ?_, ?_⟩, hcm, ⟨⟨.slice none 0 0, ?_, none, 0, rfl, Nat.le_refl _, fun h => absurd h (Nat.lt_irrefl _)⟩, ⟨.slice none 0 0, ?_, none, 0, rfl, Nat.le_refl _, fun h => absurd h (Nat.lt_irrefl _)⟩, ⟨.slice none 0 0, ?_, none, 0, rfl, Nat.le_refl _, fun h => absurd h (Nat.lt_irrefl _)⟩, ?_⟩, World.ownsRow_nil _ _ _ _, World.ownsRow_nil _ _ _ _, World.ownsRow_nil _ _ _ _, World.ownsRow_nil _ _ _ _, fun g e => (by cases e), fun g e => (by cases e), fun g e => (by cases e), fun g e => (by cases e)⟩, fun b hb => by omega, fun b hb => if_neg (by omega), fun b hb => ?_, fun b hb => ?_⟩
  case refine_28 =>
    unfold retag
    rw [if_pos (by omega)]
    exact hT b hb
  case refine_29 =>
    have : w1.heap.size ≤ b ∧ b < w1.heap.size + 5 := by
      by_cases a1 : b = w1.heap.size + 1
      · omega
      · by_cases a2 : b = w1.heap.size + 2
        · omega
        · by_cases a3 : b = w1.heap.size + 4
          · omega
          · by_cases a4 : b = w1.heap.size + 3
            · omega
            · by_cases a5 : b = w1.heap.size
              · omega
              · simp [a1, a2, a3, a4, a5] at hb
    refine ⟨by omega, by omega, if_neg (by omega)⟩
  all_goals first
    | (simp; done)
    | (simp [wEnd, wTab, wBox, go_sem, m0]; done)
    | (intro j; simp [wEnd, wTab, wBox, go_sem]; done)
/-- What made leaves. -/
def MadeSaid (W : World) (e : Ending) (w' : World) : Prop :=
  ∃ S : LSp, e = .returned (.tuple #[.pointer (some ⟨S.wb, 0, none⟩), .bool true]) ∧ (∃ u, Lm (fun b => b < W.heap.size) S m0 u w') ∧ Below W.heap.size W w'
set_option maxHeartbeats 8000000 in
set_option maxRecDepth 100000 in
theorem made_any (W : World) : Calls Try.prog 9 #[] W (MadeSaid W) := by
  have q : ∀ (w : World) (a : Nat), (binOp .eql 28 (.pointer (some ⟨a, 0, none⟩)) (.pointer none)).run Try.prog w = .ok (.bool false) w := fun w a => rfl
  have hb0 := (Below.refl W.heap.size W).alloc (Nat.le_refl _) (.cells #[.int .i64 1, .int .i64 4] 3)
  have hmf := mkfuncw
  go_enter Try.func9, Try.ntmps9
  go_wp2_with fail
  have hS : Sizes (W.alloc (.cells #[.int .i64 1, .int .i64 4] 3)) (some ⟨W.heap.size, 0, none⟩) 2 one4 := fun _ => ⟨W.heap.size, 0, rfl, by simp, fun k hk => by
    obtain rfl | rfl : k = 0 ∨ k = 1 := by omega
    · simp [go_sem, one4]
    · simp [go_sem, one4]⟩
  have HB0 := Lib.hid hb0
  have HS := Lib.hid hS
  generalize (W.alloc (.cells #[.int .i64 1, .int .i64 4] 3)) = W0 at *
  clear hb0 hS
  refine (heap_new 3000 0 0 0 0 0 (some ⟨W.heap.size, 0, none⟩) 2 2 one4 W0 HS.out ⟨by omega, by omega, by omega, by omega, by omega, by omega, one4_rise⟩).mono ?_
  rintro e w1 ⟨x, T, rfl, f1, f2, f3, f4, h1, hb1, hT⟩
  have hx := HB0.out.size
  have hz1 := hb1.size
  have hI1 := inv_new (L := Ex.whole x.lim (x.n - x.lim : Int)) (show 1 ≤ x.lim by omega) (by omega) (by omega) (by rw [f3, f4]; exact one4_sz)
  have hp1 : Hp x (fun _ => 0) (fun _ => none4) 1 0 (Ex.whole x.lim (x.n - x.lim : Int)) false [] (fun _ _ => 0) := Hp.none hI1 f3 (by rw [f4]; rfl) (by rw [f4]; rfl) (by omega) (by omega)
  have hT0 : ∀ b, b < W.heap.size → T b = 1000 := fun b hb => hT b (by omega)
  have H1 := Lib.hid (And.intro h1 (And.intro (onB' HB0.out hb1) (And.intro hp1 hT0)))
  clear h1 hb1 hI1 HB0 HS hT hp1 hT0 f1 f2 f3 f4
  go_upto_region 5 with fail
  have hfold : ((w1.alloc (.cells #[.slice none 0 0, .slice none 0 0, .slice none 0 0] 75)).alloc (.cells #[.pointer (some ⟨x.h, 0, none⟩), .pointer none, .pointer (some ⟨w1.heap.size, 0, none⟩), .slice none 0 0, .slice none 0 0, .slice none 0 0, .slice none 0 0] 33)).alloc (.cells #[.pointer (some ⟨w1.heap.size + 1, 0, none⟩)] 24) = wBox x.h w1 := rfl
  have a1 : (wBox x.h w1).drew.cell? ⟨w1.heap.size + 1 + 1, 0, none⟩ = some (.pointer (some ⟨w1.heap.size + 1, 0, none⟩)) := by simp [wBox, go_sem]
  have a2 : (wTab x.h (w1.heap.size + 2) (wBox x.h w1).drew).cell? ⟨w1.heap.size + 1 + 1, 0, none⟩ = some (.pointer (some ⟨w1.heap.size + 1, 0, none⟩)) := by simp [wTab, wBox, go_sem]
  have a3 : (wTab x.h (w1.heap.size + 2) (wBox x.h w1).drew).cell? ⟨w1.heap.size + 1, 1, none⟩ = some (.pointer none) := by simp [wTab, wBox, go_sem]
  have a4 : (wTab x.h (w1.heap.size + 2) (wBox x.h w1).drew).frozen? ⟨w1.heap.size + 1, 1, none⟩ = false := by simp [wTab, wBox, go_sem]
  have a5 : (wEnd x.h w1).cell? ⟨w1.heap.size + 1 + 1, 0, none⟩ = some (.pointer (some ⟨w1.heap.size + 1, 0, none⟩)) := by simp [wEnd, wTab, wBox, go_sem]
  have a6 : (wEnd x.h w1).cell? ⟨w1.heap.size + 1, 1, none⟩ = some (.pointer (some ⟨w1.heap.size + 4, 0, none⟩)) := by simp [wEnd, wTab, wBox, go_sem]
  have hz : (wBox x.h w1).drew.heap.size + 1 = w1.heap.size + 4 := by simp [wBox]
  have hn := wnew_any x.h (w1.heap.size + 2) (wBox x.h w1).drew
  rw [hz] at hn
  have HN := Lib.hid hn
  have hend := made_lm (W := W) H1.out.1 H1.out.2.2.1 H1.out.2.2.2 (by omega)
  have HE := Lib.hid (And.intro hend (H1.out.2.1.trans ((wEnd_below x.h w1).mono (by omega))))
  have q2 : ∀ (w : World) (a : Nat), (binOp .neq 29 (.pointer (some ⟨a, 0, none⟩)) (.pointer none)).run Try.prog w = .ok (.bool true) w := fun w a => rfl
  clear hn hend hz
  rw [hfold]
  clear hfold
  have hwe : (wTab x.h (w1.heap.size + 2) (wBox x.h w1).drew).setCell ⟨w1.heap.size + 1, 1, none⟩ (.pointer (some ⟨w1.heap.size + 4, 0, none⟩)) = (wTab x.h (w1.heap.size + 2) (wBox x.h w1).drew).setCell ⟨w1.heap.size + 1, 1, none⟩ (.pointer (some ⟨w1.heap.size + 4, 0, none⟩)) := rfl
  have HWE := Lib.hid (show ((wTab x.h (w1.heap.size + 2) (wBox x.h w1).drew).setCell ⟨w1.heap.size + 1, 1, none⟩ (.pointer (some ⟨w1.heap.size + 4, 0, none⟩))).drew = wEnd x.h w1 from rfl)
  clear hwe
  generalize wEnd x.h w1 = w9 at *
  generalize wTab x.h (w1.heap.size + 2) (wBox x.h w1).drew = w8 at *
  generalize wBox x.h w1 = w7 at *
  go_region_law (refine step_wanted rfl ?_; go_simp; go_at_call 30; refine HN.out.mono ?_; rintro e w5 ⟨rfl, rfl⟩)
  all_goals
    have HW2 := HWE.out
    generalize hq8 : w5.setCell ⟨w1.heap.size + 1, 1, none⟩ (.pointer (some ⟨w1.heap.size + 4, 0, none⟩)) = w6 at *
    subst HW2
    go_wp2_with fail
    go_region
    go_wp2_with fail
    refine bodyPost_ret (v := .tuple #[.pointer (some ⟨w1.heap.size + 1, 0, none⟩), .bool true]) (by simp [results, Try.results9, go_sem]) rfl ?_
    exact ⟨_, rfl, HE.out.1, HE.out.2⟩
end Go.Proofs.Ythliahaopelooaa
