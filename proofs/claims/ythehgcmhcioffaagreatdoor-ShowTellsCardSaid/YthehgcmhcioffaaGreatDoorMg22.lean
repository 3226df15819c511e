import Derived.Test.YthehgcmhcioffaaGreatDoorMg21
namespace Go.Proofs.YthehgcmhcioffaaGreatDoor
set_option maxHeartbeats 64000000
set_option maxRecDepth 100000
open Go.RowKit Go.Lib
theorem dk5s (nm : Nm) (f : Bool) (u : Int) (ps : List Nm) (ks : List Ex) (bl : List Bnd) (al : List Alt) (ap : Option Addr) (cp : Nat) (ak : Option Addr) (ck : Nat) (ab : Option Addr) (cb : Nat) (aa : Option Addr) (ca : Nat) (K : Nat → Prop) (xk : List Value) (w : World) (hc : ∃ c r, nm = c :: r ∧ smlB c = false) (x y : Ex) (hks : ks = [x, y]) (hT : ∀ y, y ∈ ks → TdE y ∧ (shE y).length ≤ 20000000000) (hl : (joinL (32 :: (nm ++ [32])) [atomT x, atomT y]).length ≤ 20000000000) (hK : RowAt w K 37 8 (.slice ak ks.length ck) ks.length xk) (tK : ExsAt w K ks xk) :
    Calls Tryz.prog 9 #[.agg #[.int .i64 5, .string (tx nm), .bool f, .int .u64 u, .slice ap ps.length cp, .slice ak ks.length ck, .slice ab bl.length cb, .slice aa al.length ca]] w fun e w' => e = .returned (.string (tx (joinL (32 :: (nm ++ [32])) [atomT x, atomT y]))) ∧ Below w.heap.size w w' := by
  have hx := (Below.refl w.heap.size w).alloc Nr (.cells #[.int .i64 5, .string (tx nm), .bool f, .int .u64 u, .slice ap ps.length cp, .slice ak ks.length ck, .slice ab bl.length cb, .slice aa al.length ca] 37)
  have HX := Hd (Ai hx (BoxW.alloc w #[.int .i64 5, .string (tx nm), .bool f, .int .u64 u, .slice ap ps.length cp, .slice ak ks.length ck, .slice ab bl.length cb, .slice aa al.length ca] 37))
  subst hks
  have hj : joinL (32 :: (nm ++ [32])) [atomT x, atomT y] = atomT x ++ [32] ++ nm ++ [32] ++ atomT y := by simp [joinL]
  rw [hj] at hl ⊢
  simp only [List.length_append, List.length_cons, List.length_nil] at hl
  obtain ⟨kx, nmx, fx, ux, apx, npx, cpx, akx, nkx, ckx, abx, nbx, cbx, aax, nax, cax, hEx, hcx⟩ := tK.cells 0 (by simp)
  obtain ⟨ky, nmy, fy, uy, apy, npy, cpy, aky, nky, cky, aby, nby, cby, aay, nay, cay, hEy, hcy⟩ := tK.cells 1 (by simp)
  obtain ⟨g1, o1, ea1, m1, m2, -, ht1⟩ := hK.at (by simp)
  subst ea1
  have hTx := hT x (by simp)
  have hTy := hT y (by simp)
  have HN := Hd (fun (V : World) (hb : Below w.heap.size w V) => datom_any x hTx.1 hTx.2 K V kx nmx fx ux apx npx cpx akx nkx ckx abx nbx cbx aax nax cax (hEx.blw hb))
  have HM := Hd (fun (V : World) (hb : Below w.heap.size w V) => datom_any y hTy.1 hTy.2 K V ky nmy fy uy apy npy cpy aky nky cky aby nby cby aay nay cay (hEy.blw hb))
  have HCx := Hd (fun (V : World) (hb : Below w.heap.size w V) i v h => later' hb (ht1 _ _ (hcx i v h)))
  have HCy := Hd (fun (V : World) (hb : Below w.heap.size w V) i v h => later' hb (ht1 _ _ (hcy i v h)))
  obtain ⟨c, r, hnm, hsm⟩ := hc
  have hix : ∀ V, (Instr.index 9 (.string (tx nm)) (.int .i64 0)).run Tryz.prog V = .ok (.int .u8 (c.toNat : Int)) V := fun V => by rw [hnm]; exact index_at c r V
  have hc1 : ¬ ((97 : Int) ≤ (c.toNat : Int) ∧ (c.toNat : Int) ≤ 122) := by
    unfold smlB at hsm
    simp only [Bool.and_eq_false_iff, decide_eq_false_iff_not, UInt8.le_iff_toNat_le] at hsm
    rintro ⟨h1, h2⟩
    rcases hsm with h | h
    · exact h (by show 97 ≤ c.toNat; omega)
    · exact h (by show c.toNat ≤ 122; omega)
  have z1 : (tx nm).size ≤ 20000000000 := by rw [tx_size]; omega
  have z2 : (tx (atomT x)).size ≤ 20000000000 := by rw [tx_size]; omega
  have z3 : (tx (atomT y)).size ≤ 20000000000 := by rw [tx_size]; omega
  have HE := Hd (show tx (atomT x) ++ ⟨#[32]⟩ ++ tx nm ++ ⟨#[32]⟩ ++ tx (atomT y) = tx (atomT x ++ [32] ++ nm ++ [32] ++ atomT y) by rw [show (⟨#[32]⟩ : ByteArray) = tx [32] from rfl, tx_app, tx_app, tx_app, tx_app])
  clear hnm hsm hj hl hEx hEy hcx hcy ht1 hTx hTy hT hK tK
  generalize tx (atomT x ++ [32] ++ nm ++ [32] ++ atomT y) = R at *
  generalize tx (atomT x) = N at *
  generalize tx (atomT y) = M at *
  generalize tx nm = tn at *
  have hs1 : ¬ 9223372036854775807 < N.size + 1 := by omega
  have hs2 : ¬ 9223372036854775807 < N.size + 1 + tn.size := by omega
  have hs3 : ¬ 9223372036854775807 < N.size + 1 + tn.size + 1 := by omega
  have hs4 : ¬ 9223372036854775807 < N.size + 1 + tn.size + 1 + M.size := by omega
  have gz : (0 : Int) < (([x, y] : List Ex).length : Int) := by simp
  have gz1 : (1 : Int) < (([x, y] : List Ex).length : Int) := by simp
  have gn0 : 0 < ([x, y] : List Ex).length := by simp
  have gn1 : 1 < ([x, y] : List Ex).length := by simp
  generalize ([x, y] : List Ex).length = L at *
  have hmf := func_made
  clear hx 
  go_enter Tryz.func9, Tryz.ntmps9
  by_cases h97 : (97 : Int) ≤ (c.toNat : Int)
  · have h122 : ¬ (c.toNat : Int) ≤ 122 := fun q => hc1 ⟨h97, q⟩
    clear hc1
    go_upto_region 11 with fail
    generalize (w.alloc (.cells #[.int .i64 5, .string tn, .bool f, .int .u64 u, .slice ap ps.length cp, .slice (some ⟨g1, o1, none⟩) L ck, .slice ab bl.length cb, .slice aa al.length ca] 37)) = W at *
    have HSx : Hid (∀ V, Below W.heap.size W V → V.cell? ⟨g1, o1, none⟩ = some (.int .i64 kx) ∧ V.cell? ⟨g1, o1 + 1, none⟩ = some (.string (tx nmx)) ∧ V.cell? ⟨g1, o1 + 2, none⟩ = some (.bool fx) ∧ V.cell? ⟨g1, o1 + 3, none⟩ = some (.int .u64 ux) ∧ V.cell? ⟨g1, o1 + 4, none⟩ = some (.slice apx npx cpx) ∧ V.cell? ⟨g1, o1 + 5, none⟩ = some (.slice akx nkx ckx) ∧ V.cell? ⟨g1, o1 + 6, none⟩ = some (.slice abx nbx cbx) ∧ V.cell? ⟨g1, o1 + 7, none⟩ = some (.slice aax nax cax)) := fun V hb => ⟨by have := HCx.out V (onB' HX.out.1 hb) 0 _ rfl; simpa using this, by have := HCx.out V (onB' HX.out.1 hb) 1 _ rfl; simpa using this, by have := HCx.out V (onB' HX.out.1 hb) 2 _ rfl; simpa using this, by have := HCx.out V (onB' HX.out.1 hb) 3 _ rfl; simpa using this, by have := HCx.out V (onB' HX.out.1 hb) 4 _ rfl; simpa using this, by have := HCx.out V (onB' HX.out.1 hb) 5 _ rfl; simpa using this, by have := HCx.out V (onB' HX.out.1 hb) 6 _ rfl; simpa using this, by have := HCx.out V (onB' HX.out.1 hb) 7 _ rfl; simpa using this⟩
    have HSy : Hid (∀ V, Below W.heap.size W V → V.cell? ⟨g1, o1 + 8, none⟩ = some (.int .i64 ky) ∧ V.cell? ⟨g1, o1 + 8 + 1, none⟩ = some (.string (tx nmy)) ∧ V.cell? ⟨g1, o1 + 8 + 2, none⟩ = some (.bool fy) ∧ V.cell? ⟨g1, o1 + 8 + 3, none⟩ = some (.int .u64 uy) ∧ V.cell? ⟨g1, o1 + 8 + 4, none⟩ = some (.slice apy npy cpy) ∧ V.cell? ⟨g1, o1 + 8 + 5, none⟩ = some (.slice aky nky cky) ∧ V.cell? ⟨g1, o1 + 8 + 6, none⟩ = some (.slice aby nby cby) ∧ V.cell? ⟨g1, o1 + 8 + 7, none⟩ = some (.slice aay nay cay)) := fun V hb => ⟨by have := HCy.out V (onB' HX.out.1 hb) 0 _ rfl; simpa [Nat.add_assoc] using this, by have := HCy.out V (onB' HX.out.1 hb) 1 _ rfl; simpa [Nat.add_assoc] using this, by have := HCy.out V (onB' HX.out.1 hb) 2 _ rfl; simpa [Nat.add_assoc] using this, by have := HCy.out V (onB' HX.out.1 hb) 3 _ rfl; simpa [Nat.add_assoc] using this, by have := HCy.out V (onB' HX.out.1 hb) 4 _ rfl; simpa [Nat.add_assoc] using this, by have := HCy.out V (onB' HX.out.1 hb) 5 _ rfl; simpa [Nat.add_assoc] using this, by have := HCy.out V (onB' HX.out.1 hb) 6 _ rfl; simpa [Nat.add_assoc] using this, by have := HCy.out V (onB' HX.out.1 hb) 7 _ rfl; simpa [Nat.add_assoc] using this⟩
    refine wp_region_held_drew (S := fun V => Below W.heap.size W V) (by kernel_rfl) (Br.drew) (fun hHeld => ?_)
    refine wpAnyH_take (i := 0) (oi := { dst := some 45, op := Op.fieldAddr 37 (Operand.tmp 1) 4, type := 0, pos := "ref.go:69", after := #[], guard := none }) (v := ?_) rfl (by kernel_rfl) (by kernel_rfl) (by kernel_rfl) (fun _ _ _ h => h) (Or.inl ⟨by rfl, ?_⟩) (by assumption) ?_
    rotate_left
    · intro V9 hSw
      try dsimp only at hSw
      go_simp <;> with_reducible rfl
    try simp only [Act.put, List.setIfInBounds_toArray, List.set_cons_zero, List.set_cons_succ]
    refine wpAnyH_take (i := 1) (oi := { dst := some 46, op := Op.load 34 (Operand.tmp 45), type := 34, pos := "ref.go:69", after := #[{ on := 0, ground := Ground.data }], guard := none }) (v := ?_) rfl (by kernel_rfl) (by kernel_rfl) (by kernel_rfl) (fun _ _ _ h => h) (Or.inl ⟨by rfl, ?_⟩) (by assumption) ?_
    rotate_left
    · intro V9 hSw
      try dsimp only at hSw
      have f5 := (HX.out.2.below hSw).1 5 _ rfl
      go_simp <;> with_reducible rfl
    try simp only [Act.put, List.setIfInBounds_toArray, List.set_cons_zero, List.set_cons_succ]
    refine wpAnyH_take (i := 2) (oi := { dst := some 47, op := Op.indexAddr 34 (Operand.tmp 46) (Operand.const (Value.int IntKind.i64 0)), type := 0, pos := "ref.go:69", after := #[{ on := 1, ground := Ground.data }], guard := none }) (v := ?_) rfl (by kernel_rfl) (by kernel_rfl) (by kernel_rfl) (fun _ _ _ h => h) (Or.inl ⟨by rfl, ?_⟩) (by assumption) ?_
    rotate_left
    · intro V9 hSw
      try dsimp only at hSw
      go_simp <;> with_reducible rfl
    try simp only [Act.put, List.setIfInBounds_toArray, List.set_cons_zero, List.set_cons_succ]
    refine wpAnyH_take (i := 3) (oi := { dst := some 48, op := Op.load 37 (Operand.tmp 47), type := 37, pos := "ref.go:69", after := #[{ on := 2, ground := Ground.data }], guard := none }) (v := ?_) rfl (by kernel_rfl) (by kernel_rfl) (by kernel_rfl) (fun _ _ _ h => h) (Or.inl ⟨by rfl, ?_⟩) (by assumption) ?_
    rotate_left
    · intro V9 hSw
      try dsimp only at hSw
      obtain ⟨p0, p1, p2, p3, p4, p5, p6, p7⟩ := HSx.out _ hSw
      go_simp <;> with_reducible rfl
    try simp only [Act.put, List.setIfInBounds_toArray, List.set_cons_zero, List.set_cons_succ]
    refine wpAnyH_take (i := 6) (oi := { dst := some 51, op := Op.fieldAddr 37 (Operand.tmp 1) 1, type := 0, pos := "ref.go:69", after := #[], guard := none }) (v := ?_) rfl (by kernel_rfl) (by kernel_rfl) (by kernel_rfl) (fun _ _ _ h => h) (Or.inl ⟨by rfl, ?_⟩) (by assumption) ?_
    rotate_left
    · intro V9 hSw
      try dsimp only at hSw
      go_simp <;> with_reducible rfl
    try simp only [Act.put, List.setIfInBounds_toArray, List.set_cons_zero, List.set_cons_succ]
    refine wpAnyH_take (i := 7) (oi := { dst := some 52, op := Op.load 9 (Operand.tmp 51), type := 9, pos := "ref.go:69", after := #[{ on := 6, ground := Ground.data }], guard := none }) (v := ?_) rfl (by kernel_rfl) (by kernel_rfl) (by kernel_rfl) (fun _ _ _ h => h) (Or.inl ⟨by rfl, ?_⟩) (by assumption) ?_
    rotate_left
    · intro V9 hSw
      try dsimp only at hSw
      have f1 := (HX.out.2.below hSw).1 1 _ rfl
      go_simp <;> with_reducible rfl
    try simp only [Act.put, List.setIfInBounds_toArray, List.set_cons_zero, List.set_cons_succ]
    refine wpAnyH_take (i := 10) (oi := { dst := some 55, op := Op.fieldAddr 37 (Operand.tmp 1) 4, type := 0, pos := "ref.go:69", after := #[], guard := none }) (v := ?_) rfl (by kernel_rfl) (by kernel_rfl) (by kernel_rfl) (fun _ _ _ h => h) (Or.inl ⟨by rfl, ?_⟩) (by assumption) ?_
    rotate_left
    · intro V9 hSw
      try dsimp only at hSw
      go_simp <;> with_reducible rfl
    try simp only [Act.put, List.setIfInBounds_toArray, List.set_cons_zero, List.set_cons_succ]
    refine wpAnyH_take (i := 11) (oi := { dst := some 56, op := Op.load 34 (Operand.tmp 55), type := 34, pos := "ref.go:69", after := #[{ on := 10, ground := Ground.data }], guard := none }) (v := ?_) rfl (by kernel_rfl) (by kernel_rfl) (by kernel_rfl) (fun _ _ _ h => h) (Or.inl ⟨by rfl, ?_⟩) (by assumption) ?_
    rotate_left
    · intro V9 hSw
      try dsimp only at hSw
      have f5 := (HX.out.2.below hSw).1 5 _ rfl
      go_simp <;> with_reducible rfl
    try simp only [Act.put, List.setIfInBounds_toArray, List.set_cons_zero, List.set_cons_succ]
    refine wpAnyH_take (i := 12) (oi := { dst := some 57, op := Op.indexAddr 34 (Operand.tmp 56) (Operand.const (Value.int IntKind.i64 1)), type := 0, pos := "ref.go:69", after := #[{ on := 11, ground := Ground.data }], guard := none }) (v := ?_) rfl (by kernel_rfl) (by kernel_rfl) (by kernel_rfl) (fun _ _ _ h => h) (Or.inl ⟨by rfl, ?_⟩) (by assumption) ?_
    rotate_left
    · intro V9 hSw
      try dsimp only at hSw
      go_simp <;> with_reducible rfl
    try simp only [Act.put, List.setIfInBounds_toArray, List.set_cons_zero, List.set_cons_succ]
    refine wpAnyH_take (i := 13) (oi := { dst := some 58, op := Op.load 37 (Operand.tmp 57), type := 37, pos := "ref.go:69", after := #[{ on := 12, ground := Ground.data }], guard := none }) (v := ?_) rfl (by kernel_rfl) (by kernel_rfl) (by kernel_rfl) (fun _ _ _ h => h) (Or.inl ⟨by rfl, ?_⟩) (by assumption) ?_
    rotate_left
    · intro V9 hSw
      try dsimp only at hSw
      obtain ⟨p0, p1, p2, p3, p4, p5, p6, p7⟩ := HSy.out _ hSw
      go_simp <;> with_reducible rfl
    try simp only [Act.put, List.setIfInBounds_toArray, List.set_cons_zero, List.set_cons_succ]
    refine wpAnyH_ready (rs := [4]) (by kernel_rfl) (by simp) ?_
    refine AllReadyH.cons (o := { dst := some 49, op := Op.call { callee := Callee.value (Operand.func 18), args := #[Operand.tmp 48], argTypes := #[37] }, type := 9, pos := "ref.go:69", after := #[{ on := 3, ground := Ground.data }], guard := none }) rfl (fun K hK => ?_) AllReadyH.nil
    go_simp
    refine (HN.out _ (onB' HX.out.1 hHeld)).mono ?_
    rintro e w4 ⟨rfl, hbw4⟩
    have HN4 := Hd (onB' hHeld hbw4)
    clear hbw4
    go_wp2_with fail
    refine hK.out _ _ (HN4.out) (fun hHeld => ?_)
    clear hK K
    try simp only [Act.put, List.setIfInBounds_toArray, List.set_cons_zero, List.set_cons_succ]
    refine wpAnyH_take (i := 5) (oi := { dst := some 50, op := Op.binOp BinOp.add 9 (Operand.tmp 49) (Operand.const (Value.string { data := #[32] })) 9, type := 9, pos := "ref.go:69", after := #[{ on := 4, ground := Ground.data }], guard := none }) (v := ?_) rfl (by kernel_rfl) (by kernel_rfl) (by kernel_rfl) (fun _ _ _ h => h) (Or.inl ⟨by rfl, ?_⟩) (by assumption) ?_
    rotate_left
    · intro V9 hSw
      try dsimp only at hSw
      go_simp <;> with_reducible rfl
    try simp only [Act.put, List.setIfInBounds_toArray, List.set_cons_zero, List.set_cons_succ]
    refine wpAnyH_take (i := 8) (oi := { dst := some 53, op := Op.binOp BinOp.add 9 (Operand.tmp 50) (Operand.tmp 52) 9, type := 9, pos := "ref.go:69", after := #[{ on := 5, ground := Ground.data }, { on := 7, ground := Ground.data }], guard := none }) (v := ?_) rfl (by kernel_rfl) (by kernel_rfl) (by kernel_rfl) (fun _ _ _ h => h) (Or.inl ⟨by rfl, ?_⟩) (by assumption) ?_
    rotate_left
    · intro V9 hSw
      try dsimp only at hSw
      go_simp <;> with_reducible rfl
    try simp only [Act.put, List.setIfInBounds_toArray, List.set_cons_zero, List.set_cons_succ]
    refine wpAnyH_take (i := 9) (oi := { dst := some 54, op := Op.binOp BinOp.add 9 (Operand.tmp 53) (Operand.const (Value.string { data := #[32] })) 9, type := 9, pos := "ref.go:69", after := #[{ on := 8, ground := Ground.data }], guard := none }) (v := ?_) rfl (by kernel_rfl) (by kernel_rfl) (by kernel_rfl) (fun _ _ _ h => h) (Or.inl ⟨by rfl, ?_⟩) (by assumption) ?_
    rotate_left
    · intro V9 hSw
      try dsimp only at hSw
      go_simp <;> with_reducible rfl
    try simp only [Act.put, List.setIfInBounds_toArray, List.set_cons_zero, List.set_cons_succ]
    refine wpAnyH_ready (rs := [14]) (by kernel_rfl) (by simp) ?_
    refine AllReadyH.cons (o := { dst := some 59, op := Op.call { callee := Callee.value (Operand.func 18), args := #[Operand.tmp 58], argTypes := #[37] }, type := 9, pos := "ref.go:69", after := #[{ on := 13, ground := Ground.data }, { on := 4, ground := Ground.chain }], guard := none }) rfl (fun K hK => ?_) AllReadyH.nil
    go_simp
    refine (HM.out _ (onB' HX.out.1 HN4.out)).mono ?_
    rintro e w5 ⟨rfl, hbw5⟩
    have HM5 := Hd (onB' HN4.out hbw5)
    clear hbw5
    go_wp2_with fail
    refine hK.out _ _ (HM5.out) (fun hHeld => ?_)
    clear hK K
    try simp only [Act.put, List.setIfInBounds_toArray, List.set_cons_zero, List.set_cons_succ]
    refine wpAnyH_take (i := 15) (oi := { dst := some 60, op := Op.binOp BinOp.add 9 (Operand.tmp 54) (Operand.tmp 59) 9, type := 9, pos := "ref.go:69", after := #[{ on := 9, ground := Ground.data }, { on := 14, ground := Ground.data }], guard := none }) (v := ?_) rfl (by kernel_rfl) (by kernel_rfl) (by kernel_rfl) (fun _ _ _ h => h) (Or.inl ⟨by rfl, ?_⟩) (by assumption) ?_
    rotate_left
    · intro V9 hSw
      try dsimp only at hSw
      go_simp <;> with_reducible rfl
    try simp only [Act.put, List.setIfInBounds_toArray, List.set_cons_zero, List.set_cons_succ]
    refine wpAnyH_take (i := 16) (oi := { dst := some 2, op := Op.assign (Operand.tmp 60), type := 9, pos := "ref.go:69", after := #[{ on := 15, ground := Ground.data }, { on := 14, ground := Ground.chain }, { on := 0, ground := Ground.phase }, { on := 1, ground := Ground.phase }, { on := 2, ground := Ground.phase }, { on := 3, ground := Ground.phase }, { on := 4, ground := Ground.phase }, { on := 5, ground := Ground.phase }, { on := 6, ground := Ground.phase }, { on := 7, ground := Ground.phase }, { on := 8, ground := Ground.phase }, { on := 9, ground := Ground.phase }, { on := 10, ground := Ground.phase }, { on := 11, ground := Ground.phase }, { on := 12, ground := Ground.phase }, { on := 13, ground := Ground.phase }, { on := 14, ground := Ground.phase }, { on := 15, ground := Ground.phase }], guard := none }) (v := ?_) rfl (by kernel_rfl) (by kernel_rfl) (by kernel_rfl) (fun _ _ _ h => h) (Or.inl ⟨by rfl, ?_⟩) (by assumption) ?_
    rotate_left
    · intro V9 hSw
      try dsimp only at hSw
      go_simp <;> with_reducible rfl
    try simp only [Act.put, List.setIfInBounds_toArray, List.set_cons_zero, List.set_cons_succ]
    refine wpAnyH_done (by kernel_rfl) ?_ _
    go_wp2_with fail
    go_ret
    exact ⟨by rw [← HE.out]; rfl, onB' HX.out.1 HM5.out⟩
  · clear hc1
    go_upto_region 11 with fail
    generalize (w.alloc (.cells #[.int .i64 5, .string tn, .bool f, .int .u64 u, .slice ap ps.length cp, .slice (some ⟨g1, o1, none⟩) L ck, .slice ab bl.length cb, .slice aa al.length ca] 37)) = W at *
    have HSx : Hid (∀ V, Below W.heap.size W V → V.cell? ⟨g1, o1, none⟩ = some (.int .i64 kx) ∧ V.cell? ⟨g1, o1 + 1, none⟩ = some (.string (tx nmx)) ∧ V.cell? ⟨g1, o1 + 2, none⟩ = some (.bool fx) ∧ V.cell? ⟨g1, o1 + 3, none⟩ = some (.int .u64 ux) ∧ V.cell? ⟨g1, o1 + 4, none⟩ = some (.slice apx npx cpx) ∧ V.cell? ⟨g1, o1 + 5, none⟩ = some (.slice akx nkx ckx) ∧ V.cell? ⟨g1, o1 + 6, none⟩ = some (.slice abx nbx cbx) ∧ V.cell? ⟨g1, o1 + 7, none⟩ = some (.slice aax nax cax)) := fun V hb => ⟨by have := HCx.out V (onB' HX.out.1 hb) 0 _ rfl; simpa using this, by have := HCx.out V (onB' HX.out.1 hb) 1 _ rfl; simpa using this, by have := HCx.out V (onB' HX.out.1 hb) 2 _ rfl; simpa using this, by have := HCx.out V (onB' HX.out.1 hb) 3 _ rfl; simpa using this, by have := HCx.out V (onB' HX.out.1 hb) 4 _ rfl; simpa using this, by have := HCx.out V (onB' HX.out.1 hb) 5 _ rfl; simpa using this, by have := HCx.out V (onB' HX.out.1 hb) 6 _ rfl; simpa using this, by have := HCx.out V (onB' HX.out.1 hb) 7 _ rfl; simpa using this⟩
    have HSy : Hid (∀ V, Below W.heap.size W V → V.cell? ⟨g1, o1 + 8, none⟩ = some (.int .i64 ky) ∧ V.cell? ⟨g1, o1 + 8 + 1, none⟩ = some (.string (tx nmy)) ∧ V.cell? ⟨g1, o1 + 8 + 2, none⟩ = some (.bool fy) ∧ V.cell? ⟨g1, o1 + 8 + 3, none⟩ = some (.int .u64 uy) ∧ V.cell? ⟨g1, o1 + 8 + 4, none⟩ = some (.slice apy npy cpy) ∧ V.cell? ⟨g1, o1 + 8 + 5, none⟩ = some (.slice aky nky cky) ∧ V.cell? ⟨g1, o1 + 8 + 6, none⟩ = some (.slice aby nby cby) ∧ V.cell? ⟨g1, o1 + 8 + 7, none⟩ = some (.slice aay nay cay)) := fun V hb => ⟨by have := HCy.out V (onB' HX.out.1 hb) 0 _ rfl; simpa [Nat.add_assoc] using this, by have := HCy.out V (onB' HX.out.1 hb) 1 _ rfl; simpa [Nat.add_assoc] using this, by have := HCy.out V (onB' HX.out.1 hb) 2 _ rfl; simpa [Nat.add_assoc] using this, by have := HCy.out V (onB' HX.out.1 hb) 3 _ rfl; simpa [Nat.add_assoc] using this, by have := HCy.out V (onB' HX.out.1 hb) 4 _ rfl; simpa [Nat.add_assoc] using this, by have := HCy.out V (onB' HX.out.1 hb) 5 _ rfl; simpa [Nat.add_assoc] using this, by have := HCy.out V (onB' HX.out.1 hb) 6 _ rfl; simpa [Nat.add_assoc] using this, by have := HCy.out V (onB' HX.out.1 hb) 7 _ rfl; simpa [Nat.add_assoc] using this⟩
    refine wp_region_held_drew (S := fun V => Below W.heap.size W V) (by kernel_rfl) (Br.drew) (fun hHeld => ?_)
    refine wpAnyH_take (i := 0) (oi := { dst := some 45, op := Op.fieldAddr 37 (Operand.tmp 1) 4, type := 0, pos := "ref.go:69", after := #[], guard := none }) (v := ?_) rfl (by kernel_rfl) (by kernel_rfl) (by kernel_rfl) (fun _ _ _ h => h) (Or.inl ⟨by rfl, ?_⟩) (by assumption) ?_
    rotate_left
    · intro V9 hSw
      try dsimp only at hSw
      go_simp <;> with_reducible rfl
    try simp only [Act.put, List.setIfInBounds_toArray, List.set_cons_zero, List.set_cons_succ]
    refine wpAnyH_take (i := 1) (oi := { dst := some 46, op := Op.load 34 (Operand.tmp 45), type := 34, pos := "ref.go:69", after := #[{ on := 0, ground := Ground.data }], guard := none }) (v := ?_) rfl (by kernel_rfl) (by kernel_rfl) (by kernel_rfl) (fun _ _ _ h => h) (Or.inl ⟨by rfl, ?_⟩) (by assumption) ?_
    rotate_left
    · intro V9 hSw
      try dsimp only at hSw
      have f5 := (HX.out.2.below hSw).1 5 _ rfl
      go_simp <;> with_reducible rfl
    try simp only [Act.put, List.setIfInBounds_toArray, List.set_cons_zero, List.set_cons_succ]
    refine wpAnyH_take (i := 2) (oi := { dst := some 47, op := Op.indexAddr 34 (Operand.tmp 46) (Operand.const (Value.int IntKind.i64 0)), type := 0, pos := "ref.go:69", after := #[{ on := 1, ground := Ground.data }], guard := none }) (v := ?_) rfl (by kernel_rfl) (by kernel_rfl) (by kernel_rfl) (fun _ _ _ h => h) (Or.inl ⟨by rfl, ?_⟩) (by assumption) ?_
    rotate_left
    · intro V9 hSw
      try dsimp only at hSw
      go_simp <;> with_reducible rfl
    try simp only [Act.put, List.setIfInBounds_toArray, List.set_cons_zero, List.set_cons_succ]
    refine wpAnyH_take (i := 3) (oi := { dst := some 48, op := Op.load 37 (Operand.tmp 47), type := 37, pos := "ref.go:69", after := #[{ on := 2, ground := Ground.data }], guard := none }) (v := ?_) rfl (by kernel_rfl) (by kernel_rfl) (by kernel_rfl) (fun _ _ _ h => h) (Or.inl ⟨by rfl, ?_⟩) (by assumption) ?_
    rotate_left
    · intro V9 hSw
      try dsimp only at hSw
      obtain ⟨p0, p1, p2, p3, p4, p5, p6, p7⟩ := HSx.out _ hSw
      go_simp <;> with_reducible rfl
    try simp only [Act.put, List.setIfInBounds_toArray, List.set_cons_zero, List.set_cons_succ]
    refine wpAnyH_take (i := 6) (oi := { dst := some 51, op := Op.fieldAddr 37 (Operand.tmp 1) 1, type := 0, pos := "ref.go:69", after := #[], guard := none }) (v := ?_) rfl (by kernel_rfl) (by kernel_rfl) (by kernel_rfl) (fun _ _ _ h => h) (Or.inl ⟨by rfl, ?_⟩) (by assumption) ?_
    rotate_left
    · intro V9 hSw
      try dsimp only at hSw
      go_simp <;> with_reducible rfl
    try simp only [Act.put, List.setIfInBounds_toArray, List.set_cons_zero, List.set_cons_succ]
    refine wpAnyH_take (i := 7) (oi := { dst := some 52, op := Op.load 9 (Operand.tmp 51), type := 9, pos := "ref.go:69", after := #[{ on := 6, ground := Ground.data }], guard := none }) (v := ?_) rfl (by kernel_rfl) (by kernel_rfl) (by kernel_rfl) (fun _ _ _ h => h) (Or.inl ⟨by rfl, ?_⟩) (by assumption) ?_
    rotate_left
    · intro V9 hSw
      try dsimp only at hSw
      have f1 := (HX.out.2.below hSw).1 1 _ rfl
      go_simp <;> with_reducible rfl
    try simp only [Act.put, List.setIfInBounds_toArray, List.set_cons_zero, List.set_cons_succ]
    refine wpAnyH_take (i := 10) (oi := { dst := some 55, op := Op.fieldAddr 37 (Operand.tmp 1) 4, type := 0, pos := "ref.go:69", after := #[], guard := none }) (v := ?_) rfl (by kernel_rfl) (by kernel_rfl) (by kernel_rfl) (fun _ _ _ h => h) (Or.inl ⟨by rfl, ?_⟩) (by assumption) ?_
    rotate_left
    · intro V9 hSw
      try dsimp only at hSw
      go_simp <;> with_reducible rfl
    try simp only [Act.put, List.setIfInBounds_toArray, List.set_cons_zero, List.set_cons_succ]
    refine wpAnyH_take (i := 11) (oi := { dst := some 56, op := Op.load 34 (Operand.tmp 55), type := 34, pos := "ref.go:69", after := #[{ on := 10, ground := Ground.data }], guard := none }) (v := ?_) rfl (by kernel_rfl) (by kernel_rfl) (by kernel_rfl) (fun _ _ _ h => h) (Or.inl ⟨by rfl, ?_⟩) (by assumption) ?_
    rotate_left
    · intro V9 hSw
      try dsimp only at hSw
      have f5 := (HX.out.2.below hSw).1 5 _ rfl
      go_simp <;> with_reducible rfl
    try simp only [Act.put, List.setIfInBounds_toArray, List.set_cons_zero, List.set_cons_succ]
    refine wpAnyH_take (i := 12) (oi := { dst := some 57, op := Op.indexAddr 34 (Operand.tmp 56) (Operand.const (Value.int IntKind.i64 1)), type := 0, pos := "ref.go:69", after := #[{ on := 11, ground := Ground.data }], guard := none }) (v := ?_) rfl (by kernel_rfl) (by kernel_rfl) (by kernel_rfl) (fun _ _ _ h => h) (Or.inl ⟨by rfl, ?_⟩) (by assumption) ?_
    rotate_left
    · intro V9 hSw
      try dsimp only at hSw
      go_simp <;> with_reducible rfl
    try simp only [Act.put, List.setIfInBounds_toArray, List.set_cons_zero, List.set_cons_succ]
    refine wpAnyH_take (i := 13) (oi := { dst := some 58, op := Op.load 37 (Operand.tmp 57), type := 37, pos := "ref.go:69", after := #[{ on := 12, ground := Ground.data }], guard := none }) (v := ?_) rfl (by kernel_rfl) (by kernel_rfl) (by kernel_rfl) (fun _ _ _ h => h) (Or.inl ⟨by rfl, ?_⟩) (by assumption) ?_
    rotate_left
    · intro V9 hSw
      try dsimp only at hSw
      obtain ⟨p0, p1, p2, p3, p4, p5, p6, p7⟩ := HSy.out _ hSw
      go_simp <;> with_reducible rfl
    try simp only [Act.put, List.setIfInBounds_toArray, List.set_cons_zero, List.set_cons_succ]
    refine wpAnyH_ready (rs := [4]) (by kernel_rfl) (by simp) ?_
    refine AllReadyH.cons (o := { dst := some 49, op := Op.call { callee := Callee.value (Operand.func 18), args := #[Operand.tmp 48], argTypes := #[37] }, type := 9, pos := "ref.go:69", after := #[{ on := 3, ground := Ground.data }], guard := none }) rfl (fun K hK => ?_) AllReadyH.nil
    go_simp
    refine (HN.out _ (onB' HX.out.1 hHeld)).mono ?_
    rintro e w4 ⟨rfl, hbw4⟩
    have HN4 := Hd (onB' hHeld hbw4)
    clear hbw4
    go_wp2_with fail
    refine hK.out _ _ (HN4.out) (fun hHeld => ?_)
    clear hK K
    try simp only [Act.put, List.setIfInBounds_toArray, List.set_cons_zero, List.set_cons_succ]
    refine wpAnyH_take (i := 5) (oi := { dst := some 50, op := Op.binOp BinOp.add 9 (Operand.tmp 49) (Operand.const (Value.string { data := #[32] })) 9, type := 9, pos := "ref.go:69", after := #[{ on := 4, ground := Ground.data }], guard := none }) (v := ?_) rfl (by kernel_rfl) (by kernel_rfl) (by kernel_rfl) (fun _ _ _ h => h) (Or.inl ⟨by rfl, ?_⟩) (by assumption) ?_
    rotate_left
    · intro V9 hSw
      try dsimp only at hSw
      go_simp <;> with_reducible rfl
    try simp only [Act.put, List.setIfInBounds_toArray, List.set_cons_zero, List.set_cons_succ]
    refine wpAnyH_take (i := 8) (oi := { dst := some 53, op := Op.binOp BinOp.add 9 (Operand.tmp 50) (Operand.tmp 52) 9, type := 9, pos := "ref.go:69", after := #[{ on := 5, ground := Ground.data }, { on := 7, ground := Ground.data }], guard := none }) (v := ?_) rfl (by kernel_rfl) (by kernel_rfl) (by kernel_rfl) (fun _ _ _ h => h) (Or.inl ⟨by rfl, ?_⟩) (by assumption) ?_
    rotate_left
    · intro V9 hSw
      try dsimp only at hSw
      go_simp <;> with_reducible rfl
    try simp only [Act.put, List.setIfInBounds_toArray, List.set_cons_zero, List.set_cons_succ]
    refine wpAnyH_take (i := 9) (oi := { dst := some 54, op := Op.binOp BinOp.add 9 (Operand.tmp 53) (Operand.const (Value.string { data := #[32] })) 9, type := 9, pos := "ref.go:69", after := #[{ on := 8, ground := Ground.data }], guard := none }) (v := ?_) rfl (by kernel_rfl) (by kernel_rfl) (by kernel_rfl) (fun _ _ _ h => h) (Or.inl ⟨by rfl, ?_⟩) (by assumption) ?_
    rotate_left
    · intro V9 hSw
      try dsimp only at hSw
      go_simp <;> with_reducible rfl
    try simp only [Act.put, List.setIfInBounds_toArray, List.set_cons_zero, List.set_cons_succ]
    refine wpAnyH_ready (rs := [14]) (by kernel_rfl) (by simp) ?_
    refine AllReadyH.cons (o := { dst := some 59, op := Op.call { callee := Callee.value (Operand.func 18), args := #[Operand.tmp 58], argTypes := #[37] }, type := 9, pos := "ref.go:69", after := #[{ on := 13, ground := Ground.data }, { on := 4, ground := Ground.chain }], guard := none }) rfl (fun K hK => ?_) AllReadyH.nil
    go_simp
    refine (HM.out _ (onB' HX.out.1 HN4.out)).mono ?_
    rintro e w5 ⟨rfl, hbw5⟩
    have HM5 := Hd (onB' HN4.out hbw5)
    clear hbw5
    go_wp2_with fail
    refine hK.out _ _ (HM5.out) (fun hHeld => ?_)
    clear hK K
    try simp only [Act.put, List.setIfInBounds_toArray, List.set_cons_zero, List.set_cons_succ]
    refine wpAnyH_take (i := 15) (oi := { dst := some 60, op := Op.binOp BinOp.add 9 (Operand.tmp 54) (Operand.tmp 59) 9, type := 9, pos := "ref.go:69", after := #[{ on := 9, ground := Ground.data }, { on := 14, ground := Ground.data }], guard := none }) (v := ?_) rfl (by kernel_rfl) (by kernel_rfl) (by kernel_rfl) (fun _ _ _ h => h) (Or.inl ⟨by rfl, ?_⟩) (by assumption) ?_
    rotate_left
    · intro V9 hSw
      try dsimp only at hSw
      go_simp <;> with_reducible rfl
    try simp only [Act.put, List.setIfInBounds_toArray, List.set_cons_zero, List.set_cons_succ]
    refine wpAnyH_take (i := 16) (oi := { dst := some 2, op := Op.assign (Operand.tmp 60), type := 9, pos := "ref.go:69", after := #[{ on := 15, ground := Ground.data }, { on := 14, ground := Ground.chain }, { on := 0, ground := Ground.phase }, { on := 1, ground := Ground.phase }, { on := 2, ground := Ground.phase }, { on := 3, ground := Ground.phase }, { on := 4, ground := Ground.phase }, { on := 5, ground := Ground.phase }, { on := 6, ground := Ground.phase }, { on := 7, ground := Ground.phase }, { on := 8, ground := Ground.phase }, { on := 9, ground := Ground.phase }, { on := 10, ground := Ground.phase }, { on := 11, ground := Ground.phase }, { on := 12, ground := Ground.phase }, { on := 13, ground := Ground.phase }, { on := 14, ground := Ground.phase }, { on := 15, ground := Ground.phase }], guard := none }) (v := ?_) rfl (by kernel_rfl) (by kernel_rfl) (by kernel_rfl) (fun _ _ _ h => h) (Or.inl ⟨by rfl, ?_⟩) (by assumption) ?_
    rotate_left
    · intro V9 hSw
      try dsimp only at hSw
      go_simp <;> with_reducible rfl
    try simp only [Act.put, List.setIfInBounds_toArray, List.set_cons_zero, List.set_cons_succ]
    refine wpAnyH_done (by kernel_rfl) ?_ _
    go_wp2_with fail
    go_ret
    exact ⟨by rw [← HE.out]; rfl, onB' HX.out.1 HM5.out⟩
theorem dk4 (nm : Nm) (f : Bool) (u : Int) (ps : List Nm) (ks : List Ex) (bl : List Bnd) (al : List Alt) (ap : Option Addr) (cp : Nat) (ak : Option Addr) (ck : Nat) (ab : Option Addr) (cb : Nat) (aa : Option Addr) (ca : Nat) (K : Nat → Prop) (xk : List Value) (w : World) (x : Ex) (rest : List Ex) (hks : ks = x :: rest) (hk2 : 2 ≤ ks.length) (hT : ∀ y, y ∈ ks → TdE y ∧ (shE y).length ≤ 20000000000) (hl : (joinL [32] (headL (x :: rest) ((x :: rest).map atomT))).length ≤ 20000000000) (hK : RowAt w K 37 8 (.slice ak ks.length ck) ks.length xk) (tK : ExsAt w K ks xk) :
    Calls Tryz.prog 9 #[.agg #[.int .i64 4, .string (tx nm), .bool f, .int .u64 u, .slice ap ps.length cp, .slice ak ks.length ck, .slice ab bl.length cb, .slice aa al.length ca]] w fun e w' => e = .returned (.string (tx (joinL [32] (headL (x :: rest) ((x :: rest).map atomT))))) ∧ Below w.heap.size w w' := by
  have hx := (Below.refl w.heap.size w).alloc Nr (.cells #[.int .i64 4, .string (tx nm), .bool f, .int .u64 u, .slice ap ps.length cp, .slice ak ks.length ck, .slice ab bl.length cb, .slice aa al.length ca] 37)
  have HX := Hd (Ai hx (BoxW.alloc w #[.int .i64 4, .string (tx nm), .bool f, .int .u64 u, .slice ap ps.length cp, .slice ak ks.length ck, .slice ab bl.length cb, .slice aa al.length ca] 37))
  subst hks
  have hj : joinL [32] (headL (x :: rest) ((x :: rest).map atomT)) = (if bareE x then encL (atomT x) else atomT x) ++ blk (rest.map atomT) := rfl
  rw [hj] at hl ⊢
  rw [List.length_append] at hl
  have hl2 : (blk (rest.map atomT)).length ≤ 20000000000 := by omega
  have hla : (atomT x).length ≤ 20000000000 := by
    by_cases q : bareE x = true
    · rw [if_pos q] at hl; unfold encL at hl; simp only [List.length_cons, List.length_append] at hl; omega
    · rw [if_neg q] at hl; omega
  have hTx := hT x (List.mem_cons_self ..)
  have hTr : ∀ y, y ∈ rest → TdE y ∧ (shE y).length ≤ 20000000000 := fun y hy => hT y (List.mem_cons_of_mem _ hy)
  obtain ⟨kx, nmx, fx, ux, apx, npx, cpx, akx, nkx, ckx, abx, nbx, cbx, aax, nax, cax, hEx, hcx⟩ := tK.cells 0 (by simp)
  obtain ⟨g1, o1, ea1, m1, m2, -, ht1⟩ := hK.at (by simp)
  subst ea1
  obtain ⟨ps1, ks1, bl1, al1, xk1, xb1, xa1, hxx, -, hnk, -⟩ := (show ExAt w K x _ from hEx).opened
  have hba : bareE x = ((kx == 2 || kx == 5) && nkx == 0) := by rw [hxx, plain_of, hnk]
  rw [hba] at hl ⊢
  have HKd := Hd (fun (V : World) (hb : Below w.heap.size w V) => show ∃ xs, RowAt V K 37 8 (.slice (some ⟨g1, o1 + 8, none⟩) rest.length (ck - 1)) rest.length xs ∧ ExsAt V K rest xs by
    obtain ⟨cs0, xs0, e0, h1, h2⟩ : ∃ cs0 xs0, xk = cs0 ++ xs0 ∧ cs0.length = 8 ∧ ExsAt w K rest xs0 := by
      cases tK with
      | cons _ _ cs xs h t => exact ⟨cs, xs, rfl, by cases h; rfl, t⟩
    subst e0
    exact ⟨xs0, (RowAt.tail hK h1 (Or.inr rfl)).blw hb, h2.blw hb⟩)
  have HN := Hd (fun (V : World) (hb : Below w.heap.size w V) => datom_any x hTx.1 hTx.2 K V kx nmx fx ux apx npx cpx akx nkx ckx abx nbx cbx aax nax cax (hEx.blw hb))
  have HM := Hd (fun (V : World) (hb : Below w.heap.size w V) => (HKd.out V hb).elim fun xs h => dkids_any rest hTr hl2 (some ⟨g1, o1 + 8, none⟩) (ck - 1) K K xs V h.1 h.2)
  have HCx := Hd (fun (V : World) (hb : Below w.heap.size w V) i v h => later' hb (ht1 _ _ (hcx i v h)))
  have z2 : (tx (atomT x)).size ≤ 20000000000 := by rw [tx_size]; omega
  have z3 : (tx (blk (rest.map atomT))).size ≤ 20000000000 := by rw [tx_size]; omega
  have HE := Hd (show ∀ b : Bool, (if b = true then ⟨#[40]⟩ ++ tx (atomT x) ++ ⟨#[41]⟩ else tx (atomT x)) ++ tx (blk (rest.map atomT)) = tx ((if b = true then encL (atomT x) else atomT x) ++ blk (rest.map atomT)) by
    intro b
    cases b
    · exact tx_app _ _
    · show ⟨#[40]⟩ ++ tx (atomT x) ++ ⟨#[41]⟩ ++ tx (blk (rest.map atomT)) = tx (encL (atomT x) ++ blk (rest.map atomT))
      rw [show (⟨#[40]⟩ : ByteArray) = tx [40] from rfl, show (⟨#[41]⟩ : ByteArray) = tx [41] from rfl, tx_app, tx_app, tx_app]
      rfl)
  have gz : (0 : Int) < ((x :: rest).length : Int) := by simp only [List.length_cons]; omega
  have gz1 : (1 : Int) ≤ ((x :: rest).length : Int) := by simp only [List.length_cons]; omega
  have hln : (x :: rest).length - 1 = rest.length := by simp
  have hck : ¬ ck = 1 := by omega
  clear hj hl hl2 hla hTx hTr hcx ht1 hEx hT hK tK hba hxx hnk
  have hLr : rest.length = (x :: rest).length - 1 := by simp
  rw [hLr] at HM
  generalize (x :: rest).length = L at *
  clear hLr hln HKd
  have HE1 := Hd (HE.out ((kx == 2 || kx == 5) && nkx == 0))
  clear HE
  generalize hbq : ((kx == 2 || kx == 5) && nkx == 0) = bq at *
  generalize tx ((if bq = true then encL (atomT x) else atomT x) ++ blk (rest.map atomT)) = R at *
  generalize tx (atomT x) = N at *
  generalize tx (blk (rest.map atomT)) = M at *
  have hs1 : ¬ 9223372036854775807 < 1 + N.size := by omega
  have hs2 : ¬ 9223372036854775807 < 1 + N.size + 1 := by omega
  have hs3 : ¬ 9223372036854775807 < N.size + M.size := by omega
  have hs4 : ¬ 9223372036854775807 < 1 + N.size + 1 + M.size := by omega
  have hmf := func_made
  clear hx 
  go_enter Tryz.func9, Tryz.ntmps9
  have p0 : (w.alloc (.cells #[.int .i64 4, .string (tx nm), .bool f, .int .u64 u, .slice ap ps.length cp, .slice (some ⟨g1, o1, none⟩) L ck, .slice ab bl.length cb, .slice aa al.length ca] 37)).cell? ⟨g1, o1, none⟩ = some (.int .i64 kx) := by have := HCx.out _ HX.out.1 0 _ rfl; simpa using this
  have p1 : (w.alloc (.cells #[.int .i64 4, .string (tx nm), .bool f, .int .u64 u, .slice ap ps.length cp, .slice (some ⟨g1, o1, none⟩) L ck, .slice ab bl.length cb, .slice aa al.length ca] 37)).cell? ⟨g1, o1 + 1, none⟩ = some (.string (tx nmx)) := by have := HCx.out _ HX.out.1 1 _ rfl; simpa using this
  have p2 : (w.alloc (.cells #[.int .i64 4, .string (tx nm), .bool f, .int .u64 u, .slice ap ps.length cp, .slice (some ⟨g1, o1, none⟩) L ck, .slice ab bl.length cb, .slice aa al.length ca] 37)).cell? ⟨g1, o1 + 2, none⟩ = some (.bool fx) := by have := HCx.out _ HX.out.1 2 _ rfl; simpa using this
  have p3 : (w.alloc (.cells #[.int .i64 4, .string (tx nm), .bool f, .int .u64 u, .slice ap ps.length cp, .slice (some ⟨g1, o1, none⟩) L ck, .slice ab bl.length cb, .slice aa al.length ca] 37)).cell? ⟨g1, o1 + 3, none⟩ = some (.int .u64 ux) := by have := HCx.out _ HX.out.1 3 _ rfl; simpa using this
  have p4 : (w.alloc (.cells #[.int .i64 4, .string (tx nm), .bool f, .int .u64 u, .slice ap ps.length cp, .slice (some ⟨g1, o1, none⟩) L ck, .slice ab bl.length cb, .slice aa al.length ca] 37)).cell? ⟨g1, o1 + 4, none⟩ = some (.slice apx npx cpx) := by have := HCx.out _ HX.out.1 4 _ rfl; simpa using this
  have p5 : (w.alloc (.cells #[.int .i64 4, .string (tx nm), .bool f, .int .u64 u, .slice ap ps.length cp, .slice (some ⟨g1, o1, none⟩) L ck, .slice ab bl.length cb, .slice aa al.length ca] 37)).cell? ⟨g1, o1 + 5, none⟩ = some (.slice akx nkx ckx) := by have := HCx.out _ HX.out.1 5 _ rfl; simpa using this
  have p6 : (w.alloc (.cells #[.int .i64 4, .string (tx nm), .bool f, .int .u64 u, .slice ap ps.length cp, .slice (some ⟨g1, o1, none⟩) L ck, .slice ab bl.length cb, .slice aa al.length ca] 37)).cell? ⟨g1, o1 + 6, none⟩ = some (.slice abx nbx cbx) := by have := HCx.out _ HX.out.1 6 _ rfl; simpa using this
  have p7 : (w.alloc (.cells #[.int .i64 4, .string (tx nm), .bool f, .int .u64 u, .slice ap ps.length cp, .slice (some ⟨g1, o1, none⟩) L ck, .slice ab bl.length cb, .slice aa al.length ca] 37)).cell? ⟨g1, o1 + 7, none⟩ = some (.slice aax nax cax) := by have := HCx.out _ HX.out.1 7 _ rfl; simpa using this
  have hx2 := (Below.refl (w.alloc (.cells #[.int .i64 4, .string (tx nm), .bool f, .int .u64 u, .slice ap ps.length cp, .slice (some ⟨g1, o1, none⟩) L ck, .slice ab bl.length cb, .slice aa al.length ca] 37)).heap.size (w.alloc (.cells #[.int .i64 4, .string (tx nm), .bool f, .int .u64 u, .slice ap ps.length cp, .slice (some ⟨g1, o1, none⟩) L ck, .slice ab bl.length cb, .slice aa al.length ca] 37))).alloc Nr (.cells #[.int .i64 kx, .string (tx nmx), .bool fx, .int .u64 ux, .slice apx npx cpx, .slice akx nkx ckx, .slice abx nbx cbx, .slice aax nax cax] 37)
  have HX2 := Hd (Ai (onB' HX.out.1 hx2) (Ai (HX.out.2.below hx2) (BoxW.alloc (w.alloc (.cells #[.int .i64 4, .string (tx nm), .bool f, .int .u64 u, .slice ap ps.length cp, .slice (some ⟨g1, o1, none⟩) L ck, .slice ab bl.length cb, .slice aa al.length ca] 37)) #[.int .i64 kx, .string (tx nmx), .bool fx, .int .u64 ux, .slice apx npx cpx, .slice akx nkx ckx, .slice abx nbx cbx, .slice aax nax cax] 37)))
  have HNw := Hd (HN.out _ HX2.out.1)
  clear hx2 HN HCx
  go_wp2_with fail
  refine HNw.out.mono ?_
  rintro e w3 ⟨rfl, hb⟩
  have HB := Hd (Ai (onB' HX2.out.1 hb) (Ai (HX2.out.2.1.below hb) (HX2.out.2.2.below hb)))
  have hz : (w.alloc (.cells #[.int .i64 4, .string (tx nm), .bool f, .int .u64 u, .slice ap ps.length cp, .slice (some ⟨g1, o1, none⟩) L ck, .slice ab bl.length cb, .slice aa al.length ca] 37)).heap.size = w.heap.size + 1 := by simp
  rw [hz] at HB
  clear hb HNw HX HX2 hz p0 p1 p2 p3 p4 p5 p6 p7
  have d0 : w3.cell? ⟨w.heap.size, 0, none⟩ = some (.int .i64 4) := HB.out.2.1.1 0 _ rfl
  have d1 : w3.cell? ⟨w.heap.size, 1, none⟩ = some (.string (tx nm)) := HB.out.2.1.1 1 _ rfl
  have d2 : w3.cell? ⟨w.heap.size, 2, none⟩ = some (.bool f) := HB.out.2.1.1 2 _ rfl
  have d3 : w3.cell? ⟨w.heap.size, 3, none⟩ = some (.int .u64 u) := HB.out.2.1.1 3 _ rfl
  have d4 : w3.cell? ⟨w.heap.size, 4, none⟩ = some (.slice ap ps.length cp) := HB.out.2.1.1 4 _ rfl
  have d5 : w3.cell? ⟨w.heap.size, 5, none⟩ = some (.slice (some ⟨g1, o1, none⟩) L ck) := HB.out.2.1.1 5 _ rfl
  have d6 : w3.cell? ⟨w.heap.size, 6, none⟩ = some (.slice ab bl.length cb) := HB.out.2.1.1 6 _ rfl
  have d7 : w3.cell? ⟨w.heap.size, 7, none⟩ = some (.slice aa al.length ca) := HB.out.2.1.1 7 _ rfl
  have r0 : w3.cell? ⟨w.heap.size + 1, 0, none⟩ = some (.int .i64 kx) := HB.out.2.2.1 0 _ rfl
  have r1 : w3.cell? ⟨w.heap.size + 1, 1, none⟩ = some (.string (tx nmx)) := HB.out.2.2.1 1 _ rfl
  have r2 : w3.cell? ⟨w.heap.size + 1, 2, none⟩ = some (.bool fx) := HB.out.2.2.1 2 _ rfl
  have r3 : w3.cell? ⟨w.heap.size + 1, 3, none⟩ = some (.int .u64 ux) := HB.out.2.2.1 3 _ rfl
  have r4 : w3.cell? ⟨w.heap.size + 1, 4, none⟩ = some (.slice apx npx cpx) := HB.out.2.2.1 4 _ rfl
  have r5 : w3.cell? ⟨w.heap.size + 1, 5, none⟩ = some (.slice akx nkx ckx) := HB.out.2.2.1 5 _ rfl
  have r6 : w3.cell? ⟨w.heap.size + 1, 6, none⟩ = some (.slice abx nbx cbx) := HB.out.2.2.1 6 _ rfl
  have r7 : w3.cell? ⟨w.heap.size + 1, 7, none⟩ = some (.slice aax nax cax) := HB.out.2.2.1 7 _ rfl
  have HMw := Hd (HM.out w3 HB.out.1)
  clear HM
  have fin : (if bq = true then (⟨#[40]⟩ ++ N ++ ⟨#[41]⟩ : ByteArray) else N) ++ M = R := HE1.out
  by_cases g : (kx = 2 ∨ kx = 5) ∧ nkx = 0
  · have hq : bq = true := by rw [← hbq]; rcases g with ⟨rfl | rfl, rfl⟩ <;> rfl
    subst hq
    have HF := Hd (show (⟨#[40]⟩ ++ N ++ ⟨#[41]⟩ : ByteArray) ++ M = R from fin)
    clear hbq fin HE1
    rcases g with ⟨rfl | rfl, rfl⟩
    all_goals
      go_wp2_with fail
      refine HMw.out.mono ?_
      rintro e w4 ⟨rfl, hb⟩
      have HB4 := Hd (onB' HB.out.1 hb)
      clear hb HMw
      go_wp2_with fail
      go_ret
      exact ⟨by rw [← HF.out]; rfl, HB4.out⟩
  · have hq : bq = false := by
      rw [← hbq]
      cases hh : ((kx == 2 || kx == 5) && nkx == 0) with
      | false => rfl
      | true =>
        exfalso
        simp only [Bool.or_eq_true, Bool.and_eq_true, beq_iff_eq] at hh
        exact g hh
    subst hq
    have HF := Hd (show N ++ M = R from fin)
    clear hbq fin HE1
    by_cases g5 : kx = 2 ∨ kx = 5
    · have gn : ¬ (nkx : Int) = 0 := fun h => g ⟨g5, by omega⟩
      clear g
      rcases g5 with rfl | rfl
      all_goals
        go_wp2_with fail
        refine HMw.out.mono ?_
        rintro e w4 ⟨rfl, hb⟩
        have HB4 := Hd (onB' HB.out.1 hb)
        clear hb HMw
        go_wp2_with fail
        go_ret
        exact ⟨by rw [← HF.out]; rfl, HB4.out⟩
    · have g2 : ¬ kx = 2 := fun h => g5 (Or.inl h)
      have g55 : ¬ kx = 5 := fun h => g5 (Or.inr h)
      have e25 : (kx == 2 || kx == 5) = false := by simp [g2, g55]
      clear g g5
      go_wp2_with fail
      refine HMw.out.mono ?_
      rintro e w4 ⟨rfl, hb⟩
      have HB4 := Hd (onB' HB.out.1 hb)
      clear hb HMw
      go_wp2_with fail
      go_ret
      exact ⟨by rw [← HF.out]; rfl, HB4.out⟩
end Go.Proofs.YthehgcmhcioffaaGreatDoor
