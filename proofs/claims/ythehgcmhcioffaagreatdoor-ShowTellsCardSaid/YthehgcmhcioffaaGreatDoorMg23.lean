import Derived.Test.YthehgcmhcioffaaGreatDoorMg11
import Derived.Test.YthehgcmhcioffaaGreatDoorMg21
import Derived.Test.YthehgcmhcioffaaGreatDoorMg22
namespace Go.Proofs.YthehgcmhcioffaaGreatDoor
set_option maxHeartbeats 64000000
set_option maxRecDepth 100000
open Go.RowKit Go.Lib
theorem djoin_len (sep : List UInt8) : ∀ (l : List (List UInt8)) (j : Nat), (joinL sep (l.take j)).length ≤ (joinL sep l).length
  | [], j => by rw [List.take_nil]; exact Nat.le_refl _
  | a :: r, 0 => Nat.zero_le _
  | a :: r, j + 1 => by
    rw [List.take_succ_cons]
    show (a ++ (r.take j).flatMap (fun x => sep ++ x)).length ≤ (a ++ r.flatMap (fun x => sep ++ x)).length
    conv => rhs; rw [← List.take_append_drop j r]
    rw [List.flatMap_append]
    simp only [List.length_append]
    omega
theorem join_step (sep : List UInt8) (l : List (List UInt8)) {j : Nat} (h : j < l.length) : joinL sep (l.take (j + 1)) = (if j = 0 then [] else joinL sep (l.take j) ++ sep) ++ l[j] := by
  cases l with
  | nil => simp at h
  | cons a r =>
    cases j with
    | zero => simp [joinL]
    | succ i =>
      have hi : i < r.length := by simpa using h
      rw [List.take_succ_cons, List.take_succ_cons, if_neg (Nat.succ_ne_zero i), List.take_succ_eq_append_getElem hi]
      show a ++ (r.take i ++ [r[i]]).flatMap (fun x => sep ++ x) = _ ++ sep ++ r[i]
      rw [List.flatMap_append]
      show _ = (a ++ (r.take i).flatMap (fun x => sep ++ x)) ++ sep ++ r[i]
      simp
theorem blk_join {ps : List (List UInt8)} (h : ps ≠ []) : blk ps = 32 :: joinL [32] ps := by
  cases ps with
  | nil => exact absurd rfl h
  | cons a r => rfl
theorem tx_tail (c : UInt8) (l : List UInt8) : (tx (c :: l)).extract 1 (tx (c :: l)).size = tx l := by
  apply ByteArray.ext
  simp [tx, ByteArray.size]
theorem dk8 (nm : Nm) (f : Bool) (u : Int) (ps : List Nm) (ks : List Ex) (bl : List Bnd) (al : List Alt) (ap : Option Addr) (cp : Nat) (ak : Option Addr) (ck : Nat) (ab : Option Addr) (cb : Nat) (aa : Option Addr) (ca : Nat) (K : Nat → Prop) (xk : List Value) (w : World) (x : Ex) (hks : ks = [x]) (hT : ∀ y, y ∈ ks → TdE y ∧ (shE y).length ≤ 20000000000) (hps : ps ≠ []) (hl : (wordsL (92 :: joinL [32] ps) [[45, 62], shE x]).length ≤ 20000000000) (hP : RowAt w K 9 1 (.slice ap ps.length cp) ps.length (namesV ps)) (hK : RowAt w K 37 8 (.slice ak ks.length ck) ks.length xk) (tK : ExsAt w K ks xk) :
    Calls Tryz.prog 9 #[.agg #[.int .i64 8, .string (tx nm), .bool f, .int .u64 u, .slice ap ps.length cp, .slice ak ks.length ck, .slice ab bl.length cb, .slice aa al.length ca]] w fun e w' => e = .returned (.string (tx (wordsL (92 :: joinL [32] ps) [[45, 62], shE x]))) ∧ Below w.heap.size w w' := by
  have hx := (Below.refl w.heap.size w).alloc Nr (.cells #[.int .i64 8, .string (tx nm), .bool f, .int .u64 u, .slice ap ps.length cp, .slice ak ks.length ck, .slice ab bl.length cb, .slice aa al.length ca] 37)
  have HX := Hd (Ai hx (BoxW.alloc w #[.int .i64 8, .string (tx nm), .bool f, .int .u64 u, .slice ap ps.length cp, .slice ak ks.length ck, .slice ab bl.length cb, .slice aa al.length ca] 37))
  subst hks
  have hj : wordsL (92 :: joinL [32] ps) [[45, 62], shE x] = [92] ++ joinL [32] ps ++ [32, 45, 62, 32] ++ shE x := by simp [wordsL]
  rw [hj] at hl ⊢
  simp only [List.length_append, List.length_cons, List.length_nil] at hl
  have hbj := blk_join hps
  have hlb : (blk ps).length ≤ 20000000000 := by rw [hbj, List.length_cons]; omega
  obtain ⟨kx, nmx, fx, ux, apx, npx, cpx, akx, nkx, ckx, abx, nbx, cbx, aax, nax, cax, hEx, hcx⟩ := tK.cells 0 (by simp)
  obtain ⟨g2, o2, ea2, m1, m2, -, ht2⟩ := hK.at (by simp)
  subst ea2
  have hTx := (hT x (by simp)).1
  have HCx := Hd (fun (V : World) (hb : Below w.heap.size w V) i v h => later' hb (ht2 _ _ (hcx i v h)))
  have HSx : Hid (∀ V, Below w.heap.size w V → V.cell? ⟨g2, o2, none⟩ = some (.int .i64 kx) ∧ V.cell? ⟨g2, o2 + 1, none⟩ = some (.string (tx nmx)) ∧ V.cell? ⟨g2, o2 + 2, none⟩ = some (.bool fx) ∧ V.cell? ⟨g2, o2 + 3, none⟩ = some (.int .u64 ux) ∧ V.cell? ⟨g2, o2 + 4, none⟩ = some (.slice apx npx cpx) ∧ V.cell? ⟨g2, o2 + 5, none⟩ = some (.slice akx nkx ckx) ∧ V.cell? ⟨g2, o2 + 6, none⟩ = some (.slice abx nbx cbx) ∧ V.cell? ⟨g2, o2 + 7, none⟩ = some (.slice aax nax cax)) := fun V hb => ⟨by have := HCx.out V hb 0 _ rfl; simpa using this, by have := HCx.out V hb 1 _ rfl; simpa using this, by have := HCx.out V hb 2 _ rfl; simpa using this, by have := HCx.out V hb 3 _ rfl; simpa using this, by have := HCx.out V hb 4 _ rfl; simpa using this, by have := HCx.out V hb 5 _ rfl; simpa using this, by have := HCx.out V hb 6 _ rfl; simpa using this, by have := HCx.out V hb 7 _ rfl; simpa using this⟩
  have HM := Hd (fun (V : World) (hb : Below w.heap.size w V) => hTx K V kx nmx fx ux apx npx cpx akx nkx ckx abx nbx cbx aax nax cax (hEx.blw hb))
  have HN := Hd (fun (V : World) (hb : Below w.heap.size w V) => dwords_any ps hlb ap cp K V (hP.blw hb))
  rw [hbj] at HN
  have hsz : 1 ≤ (tx (32 :: joinL [32] ps)).size := by rw [tx_size]; simp
  have hszi : (1 : Int) ≤ ((tx (32 :: joinL [32] ps)).size : Int) := by omega
  have htl := tx_tail 32 (joinL [32] ps)
  have z1 : (tx (joinL [32] ps)).size ≤ 20000000000 := by rw [tx_size]; omega
  have z2 : (tx (shE x)).size ≤ 20000000000 := by rw [tx_size]; omega
  have HE := Hd (show ⟨#[92]⟩ ++ tx (joinL [32] ps) ++ ⟨#[32, 45, 62, 32]⟩ ++ tx (shE x) = tx ([92] ++ joinL [32] ps ++ [32, 45, 62, 32] ++ shE x) by rw [show (⟨#[92]⟩ : ByteArray) = tx [92] from rfl, show (⟨#[32, 45, 62, 32]⟩ : ByteArray) = tx [32, 45, 62, 32] from rfl, tx_app, tx_app, tx_app])
  clear hj hl hbj hlb hEx hcx ht2 hTx hT hK tK hP hps HCx
  generalize tx ([92] ++ joinL [32] ps ++ [32, 45, 62, 32] ++ shE x) = R at *
  generalize tx (32 :: joinL [32] ps) = B at *
  generalize tx (joinL [32] ps) = N at *
  generalize tx (shE x) = M at *
  have hs1 : ¬ 9223372036854775807 < 1 + N.size := by omega
  have hs2 : ¬ 9223372036854775807 < 1 + N.size + 4 := by omega
  have hs3 : ¬ 9223372036854775807 < 1 + N.size + 4 + M.size := by omega
  have gz : (0 : Int) < (([x] : List Ex).length : Int) := by simp
  have gn0 : 0 < ([x] : List Ex).length := by simp
  generalize ([x] : List Ex).length = L at *
  have hmf := func_made
  clear hx 
  go_enter Tryz.func9, Tryz.ntmps9
  go_upto_region 19 with fail
  generalize (w.alloc (.cells #[.int .i64 8, .string (tx nm), .bool f, .int .u64 u, .slice ap ps.length cp, .slice (some ⟨g2, o2, none⟩) L ck, .slice ab bl.length cb, .slice aa al.length ca] 37)) = W at *
  refine wp_region_held_drew (S := fun V => Below W.heap.size W V) (by kernel_rfl) (Br.drew) (fun hHeld => ?_)
  refine wpAnyH_take (i := 0) (oi := { dst := some 94, op := Op.fieldAddr 37 (Operand.tmp 1) 3, type := 0, pos := "ref.go:78", after := #[], guard := none }) (v := ?_) rfl (by kernel_rfl) (by kernel_rfl) (by kernel_rfl) (fun _ _ _ h => h) (Or.inl ⟨by rfl, ?_⟩) (by assumption) ?_
  rotate_left
  · intro V9 hSw
    try dsimp only at hSw
    go_simp <;> with_reducible rfl
  try simp only [Act.put, List.setIfInBounds_toArray, List.set_cons_zero, List.set_cons_succ]
  refine wpAnyH_take (i := 1) (oi := { dst := some 95, op := Op.load 30 (Operand.tmp 94), type := 30, pos := "ref.go:78", after := #[{ on := 0, ground := Ground.data }], guard := none }) (v := ?_) rfl (by kernel_rfl) (by kernel_rfl) (by kernel_rfl) (fun _ _ _ h => h) (Or.inl ⟨by rfl, ?_⟩) (by assumption) ?_
  rotate_left
  · intro V9 hSw
    try dsimp only at hSw
    have f4 := (HX.out.2.below hSw).1 4 _ rfl
    go_simp <;> with_reducible rfl
  try simp only [Act.put, List.setIfInBounds_toArray, List.set_cons_zero, List.set_cons_succ]
  refine wpAnyH_take (i := 6) (oi := { dst := some 100, op := Op.fieldAddr 37 (Operand.tmp 1) 4, type := 0, pos := "ref.go:78", after := #[], guard := none }) (v := ?_) rfl (by kernel_rfl) (by kernel_rfl) (by kernel_rfl) (fun _ _ _ h => h) (Or.inl ⟨by rfl, ?_⟩) (by assumption) ?_
  rotate_left
  · intro V9 hSw
    try dsimp only at hSw
    go_simp <;> with_reducible rfl
  try simp only [Act.put, List.setIfInBounds_toArray, List.set_cons_zero, List.set_cons_succ]
  refine wpAnyH_take (i := 7) (oi := { dst := some 101, op := Op.load 34 (Operand.tmp 100), type := 34, pos := "ref.go:78", after := #[{ on := 6, ground := Ground.data }], guard := none }) (v := ?_) rfl (by kernel_rfl) (by kernel_rfl) (by kernel_rfl) (fun _ _ _ h => h) (Or.inl ⟨by rfl, ?_⟩) (by assumption) ?_
  rotate_left
  · intro V9 hSw
    try dsimp only at hSw
    have f5 := (HX.out.2.below hSw).1 5 _ rfl
    go_simp <;> with_reducible rfl
  try simp only [Act.put, List.setIfInBounds_toArray, List.set_cons_zero, List.set_cons_succ]
  refine wpAnyH_take (i := 8) (oi := { dst := some 102, op := Op.indexAddr 34 (Operand.tmp 101) (Operand.const (Value.int IntKind.i64 0)), type := 0, pos := "ref.go:78", after := #[{ on := 7, ground := Ground.data }], guard := none }) (v := ?_) rfl (by kernel_rfl) (by kernel_rfl) (by kernel_rfl) (fun _ _ _ h => h) (Or.inl ⟨by rfl, ?_⟩) (by assumption) ?_
  rotate_left
  · intro V9 hSw
    try dsimp only at hSw
    go_simp <;> with_reducible rfl
  try simp only [Act.put, List.setIfInBounds_toArray, List.set_cons_zero, List.set_cons_succ]
  refine wpAnyH_take (i := 9) (oi := { dst := some 103, op := Op.load 37 (Operand.tmp 102), type := 37, pos := "ref.go:78", after := #[{ on := 8, ground := Ground.data }], guard := none }) (v := ?_) rfl (by kernel_rfl) (by kernel_rfl) (by kernel_rfl) (fun _ _ _ h => h) (Or.inl ⟨by rfl, ?_⟩) (by assumption) ?_
  rotate_left
  · intro V9 hSw
    try dsimp only at hSw
    obtain ⟨p0, p1, p2, p3, p4, p5, p6, p7⟩ := HSx.out _ (onB' HX.out.1 hSw)
    go_simp <;> with_reducible rfl
  try simp only [Act.put, List.setIfInBounds_toArray, List.set_cons_zero, List.set_cons_succ]
  refine wpAnyH_ready (rs := [2]) (by kernel_rfl) (by simp) ?_
  refine AllReadyH.cons (o := { dst := some 96, op := Op.call { callee := Callee.value (Operand.func 19), args := #[Operand.tmp 95], argTypes := #[30] }, type := 9, pos := "ref.go:78", after := #[{ on := 1, ground := Ground.data }], guard := none }) rfl (fun K hK => ?_) AllReadyH.nil
  go_simp
  refine (HN.out _ (onB' HX.out.1 hHeld)).mono ?_
  rintro e w4 ⟨rfl, hbw4⟩
  have HN4 := Hd (onB' hHeld hbw4)
  clear hbw4
  go_wp2_with fail
  refine hK.out _ _ (HN4.out) (fun hHeld => ?_)
  clear hK K
  try simp only [Act.put, List.setIfInBounds_toArray, List.set_cons_zero, List.set_cons_succ]
  refine wpAnyH_take (i := 3) (oi := { dst := some 97, op := Op.slice 9 (Operand.tmp 96) (some (Operand.const (Value.int IntKind.i64 1))) none none, type := 9, pos := "ref.go:78", after := #[{ on := 2, ground := Ground.data }], guard := none }) (v := ?_) rfl (by kernel_rfl) (by kernel_rfl) (by kernel_rfl) (fun _ _ _ h => h) (Or.inl ⟨by rfl, ?_⟩) (by assumption) ?_
  rotate_left
  · intro V9 hSw
    try dsimp only at hSw
    go_simp <;> with_reducible rfl
  try simp only [Act.put, List.setIfInBounds_toArray, List.set_cons_zero, List.set_cons_succ]
  refine wpAnyH_take (i := 4) (oi := { dst := some 98, op := Op.binOp BinOp.add 9 (Operand.const (Value.string { data := #[92] })) (Operand.tmp 97) 9, type := 9, pos := "ref.go:78", after := #[{ on := 3, ground := Ground.data }], guard := none }) (v := ?_) rfl (by kernel_rfl) (by kernel_rfl) (by kernel_rfl) (fun _ _ _ h => h) (Or.inl ⟨by rfl, ?_⟩) (by assumption) ?_
  rotate_left
  · intro V9 hSw
    try dsimp only at hSw
    go_simp <;> with_reducible rfl
  try simp only [Act.put, List.setIfInBounds_toArray, List.set_cons_zero, List.set_cons_succ]
  refine wpAnyH_take (i := 5) (oi := { dst := some 99, op := Op.binOp BinOp.add 9 (Operand.tmp 98) (Operand.const (Value.string { data := #[32, 45, 62, 32] })) 9, type := 9, pos := "ref.go:78", after := #[{ on := 4, ground := Ground.data }], guard := none }) (v := ?_) rfl (by kernel_rfl) (by kernel_rfl) (by kernel_rfl) (fun _ _ _ h => h) (Or.inl ⟨by rfl, ?_⟩) (by assumption) ?_
  rotate_left
  · intro V9 hSw
    try dsimp only at hSw
    go_simp <;> with_reducible rfl
  try simp only [Act.put, List.setIfInBounds_toArray, List.set_cons_zero, List.set_cons_succ]
  refine wpAnyH_ready (rs := [10]) (by kernel_rfl) (by simp) ?_
  refine AllReadyH.cons (o := { dst := some 104, op := Op.call { callee := Callee.value (Operand.func 9), args := #[Operand.tmp 103], argTypes := #[37] }, type := 9, pos := "ref.go:78", after := #[{ on := 9, ground := Ground.data }, { on := 2, ground := Ground.chain }], guard := none }) rfl (fun K hK => ?_) AllReadyH.nil
  go_simp
  refine (HM.out _ (onB' HX.out.1 HN4.out)).mono ?_
  rintro e w5 ⟨rfl, hbw5⟩
  have HM5 := Hd (onB' HN4.out hbw5)
  clear hbw5
  go_wp2_with fail
  refine hK.out _ _ (HM5.out) (fun hHeld => ?_)
  clear hK K
  try simp only [Act.put, List.setIfInBounds_toArray, List.set_cons_zero, List.set_cons_succ]
  refine wpAnyH_take (i := 11) (oi := { dst := some 105, op := Op.binOp BinOp.add 9 (Operand.tmp 99) (Operand.tmp 104) 9, type := 9, pos := "ref.go:78", after := #[{ on := 5, ground := Ground.data }, { on := 10, ground := Ground.data }], guard := none }) (v := ?_) rfl (by kernel_rfl) (by kernel_rfl) (by kernel_rfl) (fun _ _ _ h => h) (Or.inl ⟨by rfl, ?_⟩) (by assumption) ?_
  rotate_left
  · intro V9 hSw
    try dsimp only at hSw
    go_simp <;> with_reducible rfl
  try simp only [Act.put, List.setIfInBounds_toArray, List.set_cons_zero, List.set_cons_succ]
  refine wpAnyH_take (i := 12) (oi := { dst := some 2, op := Op.assign (Operand.tmp 105), type := 9, pos := "ref.go:78", after := #[{ on := 11, ground := Ground.data }, { on := 10, ground := Ground.chain }, { on := 0, ground := Ground.phase }, { on := 1, ground := Ground.phase }, { on := 2, ground := Ground.phase }, { on := 3, ground := Ground.phase }, { on := 4, ground := Ground.phase }, { on := 5, ground := Ground.phase }, { on := 6, ground := Ground.phase }, { on := 7, ground := Ground.phase }, { on := 8, ground := Ground.phase }, { on := 9, ground := Ground.phase }, { on := 10, ground := Ground.phase }, { on := 11, ground := Ground.phase }], guard := none }) (v := ?_) rfl (by kernel_rfl) (by kernel_rfl) (by kernel_rfl) (fun _ _ _ h => h) (Or.inl ⟨by rfl, ?_⟩) (by assumption) ?_
  rotate_left
  · intro V9 hSw
    try dsimp only at hSw
    go_simp <;> with_reducible rfl
  try simp only [Act.put, List.setIfInBounds_toArray, List.set_cons_zero, List.set_cons_succ]
  refine wpAnyH_done (by kernel_rfl) ?_ _
  go_wp2_with fail
  go_ret
  exact ⟨by rw [← HE.out]; rfl, onB' HX.out.1 HM5.out⟩
theorem dk6 (nm : Nm) (f : Bool) (u : Int) (ps : List Nm) (ks : List Ex) (bl : List Bnd) (al : List Alt) (ap : Option Addr) (cp : Nat) (ak : Option Addr) (ck : Nat) (ab : Option Addr) (cb : Nat) (aa : Option Addr) (ca : Nat) (K : Nat → Prop) (xk : List Value) (w : World) (xb : List Value) (x : Ex) (hks : ks = [x]) (hT : ∀ y, y ∈ ks → TdE y ∧ (shE y).length ≤ 20000000000) (hTb : ∀ y, y ∈ bl → TdE y.2.2 ∧ (bindT y).length ≤ 20000000000) (hl : (wordsL [108, 101, 116] [joinL [59, 32] (bl.map bindT), [105, 110], shE x]).length ≤ 20000000000) (hK : RowAt w K 37 8 (.slice ak ks.length ck) ks.length xk) (tK : ExsAt w K ks xk) (hB : RowAt w K 39 10 (.slice ab bl.length cb) bl.length xb) (tB : BndsAt w K bl xb) :
    Calls Tryz.prog 9 #[.agg #[.int .i64 6, .string (tx nm), .bool f, .int .u64 u, .slice ap ps.length cp, .slice ak ks.length ck, .slice ab bl.length cb, .slice aa al.length ca]] w fun e w' => e = .returned (.string (tx (wordsL [108, 101, 116] [joinL [59, 32] (bl.map bindT), [105, 110], shE x]))) ∧ Below w.heap.size w w' := by
  have hx := (Below.refl w.heap.size w).alloc Nr (.cells #[.int .i64 6, .string (tx nm), .bool f, .int .u64 u, .slice ap ps.length cp, .slice ak ks.length ck, .slice ab bl.length cb, .slice aa al.length ca] 37)
  have HX := Hd (Ai hx (BoxW.alloc w #[.int .i64 6, .string (tx nm), .bool f, .int .u64 u, .slice ap ps.length cp, .slice ak ks.length ck, .slice ab bl.length cb, .slice aa al.length ca] 37))
  subst hks
  have hj : wordsL [108, 101, 116] [joinL [59, 32] (bl.map bindT), [105, 110], shE x] = [108, 101, 116, 32] ++ joinL [59, 32] (bl.map bindT) ++ [32, 105, 110, 32] ++ shE x := by simp [wordsL]
  rw [hj] at hl ⊢
  simp only [List.length_append, List.length_cons, List.length_nil] at hl
  have HL := Hd (fun j => Nt (djoin_len [59, 32] (bl.map bindT) j) (show (joinL [59, 32] (bl.map bindT)).length ≤ 20000000000 by omega))
  have hmx := hB.cap
  unfold maxLen at hmx
  obtain ⟨kx, nmx, fx, ux, apx, npx, cpx, akx, nkx, ckx, abx, nbx, cbx, aax, nax, cax, hEx, hcx⟩ := tK.cells 0 (by simp)
  obtain ⟨g2, o2, ea2, m1, m2, -, ht2⟩ := hK.at (by simp)
  subst ea2
  have hTx := (hT x (by simp)).1
  have HCx := Hd (fun (V : World) (hb : Below w.heap.size w V) i v h => later' hb (ht2 _ _ (hcx i v h)))
  have HSx : Hid (∀ V, Below w.heap.size w V → V.cell? ⟨g2, o2, none⟩ = some (.int .i64 kx) ∧ V.cell? ⟨g2, o2 + 1, none⟩ = some (.string (tx nmx)) ∧ V.cell? ⟨g2, o2 + 2, none⟩ = some (.bool fx) ∧ V.cell? ⟨g2, o2 + 3, none⟩ = some (.int .u64 ux) ∧ V.cell? ⟨g2, o2 + 4, none⟩ = some (.slice apx npx cpx) ∧ V.cell? ⟨g2, o2 + 5, none⟩ = some (.slice akx nkx ckx) ∧ V.cell? ⟨g2, o2 + 6, none⟩ = some (.slice abx nbx cbx) ∧ V.cell? ⟨g2, o2 + 7, none⟩ = some (.slice aax nax cax)) := fun V hb => ⟨by have := HCx.out V hb 0 _ rfl; simpa using this, by have := HCx.out V hb 1 _ rfl; simpa using this, by have := HCx.out V hb 2 _ rfl; simpa using this, by have := HCx.out V hb 3 _ rfl; simpa using this, by have := HCx.out V hb 4 _ rfl; simpa using this, by have := HCx.out V hb 5 _ rfl; simpa using this, by have := HCx.out V hb 6 _ rfl; simpa using this, by have := HCx.out V hb 7 _ rfl; simpa using this⟩
  have HM := Hd (fun (V : World) (hb : Below w.heap.size w V) => hTx K V kx nmx fx ux apx npx cpx akx nkx ckx abx nbx cbx aax nax cax (hEx.blw hb))
  have HO := Hd (Ai hB tB)
  have HT := Hd hTb
  have z1 : (tx (joinL [59, 32] (bl.map bindT))).size ≤ 20000000000 := by rw [tx_size]; omega
  have z2 : (tx (shE x)).size ≤ 20000000000 := by rw [tx_size]; omega
  have HE := Hd (show ⟨#[108, 101, 116, 32]⟩ ++ tx (joinL [59, 32] (bl.map bindT)) ++ ⟨#[32, 105, 110, 32]⟩ ++ tx (shE x) = tx ([108, 101, 116, 32] ++ joinL [59, 32] (bl.map bindT) ++ [32, 105, 110, 32] ++ shE x) by rw [show (⟨#[108, 101, 116, 32]⟩ : ByteArray) = tx [108, 101, 116, 32] from rfl, show (⟨#[32, 105, 110, 32]⟩ : ByteArray) = tx [32, 105, 110, 32] from rfl, tx_app, tx_app, tx_app])
  have gz : (0 : Int) < (([x] : List Ex).length : Int) := by simp
  have gn0 : 0 < ([x] : List Ex).length := by simp
  clear hj hl hEx hcx ht2 hTx hT hK tK hB tB HCx hTb
  generalize tx ([108, 101, 116, 32] ++ joinL [59, 32] (bl.map bindT) ++ [32, 105, 110, 32] ++ shE x) = R at *
  generalize tx (shE x) = M at *
  generalize ([x] : List Ex).length = L at *
  have hmf := func_made
  clear hx 
  go_enter Tryz.func9, Tryz.ntmps9
  go_upto_region 20 with fail
  generalize (w.alloc (.cells #[.int .i64 6, .string (tx nm), .bool f, .int .u64 u, .slice ap ps.length cp, .slice (some ⟨g2, o2, none⟩) L ck, .slice ab bl.length cb, .slice aa al.length ca] 37)) = W at *
  have d0 : W.cell? ⟨w.heap.size, 0, none⟩ = some (.int .i64 6) := HX.out.2.1 0 _ rfl
  have d1 : W.cell? ⟨w.heap.size, 1, none⟩ = some (.string (tx nm)) := HX.out.2.1 1 _ rfl
  have d2 : W.cell? ⟨w.heap.size, 2, none⟩ = some (.bool f) := HX.out.2.1 2 _ rfl
  have d3 : W.cell? ⟨w.heap.size, 3, none⟩ = some (.int .u64 u) := HX.out.2.1 3 _ rfl
  have d4 : W.cell? ⟨w.heap.size, 4, none⟩ = some (.slice ap ps.length cp) := HX.out.2.1 4 _ rfl
  have d5 : W.cell? ⟨w.heap.size, 5, none⟩ = some (.slice (some ⟨g2, o2, none⟩) L ck) := HX.out.2.1 5 _ rfl
  have d6 : W.cell? ⟨w.heap.size, 6, none⟩ = some (.slice ab bl.length cb) := HX.out.2.1 6 _ rfl
  have d7 : W.cell? ⟨w.heap.size, 7, none⟩ = some (.slice aa al.length ca) := HX.out.2.1 7 _ rfl
  go_wp2_with fail
  go_loopw [5, 6] (fun s5 s6 wr => ∃ j : Nat, j ≤ bl.length ∧ s5 = .string (tx (joinL [59, 32] ((bl.map bindT).take j))) ∧ s6 = .int .i64 j ∧ Below W.heap.size W wr) (fun _ s6 _ => bl.length - (RowKit.intOf s6).toNat)
  case atStart => exact ⟨0, Nat.zero_le _, rfl, rfl, Below.refl _ _⟩
  case round =>
    obtain ⟨j, hj, rfl, rfl, hbr⟩ := hrel
    have HR := Hd hbr
    clear hbr d0 d1 d2 d3 d4 d5 d6 d7
    by_cases gj : j < bl.length
    · have gj' : (j : Int) < (bl.length : Int) := by omega
      have gm : j < (bl.map bindT).length := by rw [List.length_map]; exact gj
      obtain ⟨aq, cq, kb, nmb, fb, ub, apb, npb, cpb, akb, nkb, ckb, abb, nbb, cbb, aab, nab, cab, hQ, hE, hc⟩ := HO.out.2.cells j gj
      obtain ⟨g1, o1, ea1, k1, m1', -, ht1⟩ := HO.out.1.at (by omega)
      subst ea1
      have d0 : wr.cell? ⟨w.heap.size, 0, none⟩ = some (.int .i64 6) := (HX.out.2.below HR.out).1 0 _ rfl
      have d1 : wr.cell? ⟨w.heap.size, 1, none⟩ = some (.string (tx nm)) := (HX.out.2.below HR.out).1 1 _ rfl
      have d2 : wr.cell? ⟨w.heap.size, 2, none⟩ = some (.bool f) := (HX.out.2.below HR.out).1 2 _ rfl
      have d3 : wr.cell? ⟨w.heap.size, 3, none⟩ = some (.int .u64 u) := (HX.out.2.below HR.out).1 3 _ rfl
      have d4 : wr.cell? ⟨w.heap.size, 4, none⟩ = some (.slice ap ps.length cp) := (HX.out.2.below HR.out).1 4 _ rfl
      have d5 : wr.cell? ⟨w.heap.size, 5, none⟩ = some (.slice (some ⟨g2, o2, none⟩) L ck) := (HX.out.2.below HR.out).1 5 _ rfl
      have d6 : wr.cell? ⟨w.heap.size, 6, none⟩ = some (.slice (some ⟨g1, o1, none⟩) bl.length cb) := (HX.out.2.below HR.out).1 6 _ rfl
      have d7 : wr.cell? ⟨w.heap.size, 7, none⟩ = some (.slice aa al.length ca) := (HX.out.2.below HR.out).1 7 _ rfl
      have HP := Hd (fun i v h => later' (onB' HX.out.1 HR.out) (ht1 _ _ (hc i v h)))
      have HA := Hd (ddbind_any bl[j] (HT.out _ (List.getElem_mem gj)).1 (HT.out _ (List.getElem_mem gj)).2 aq cq K wr kb nmb fb ub apb npb cpb akb nkb ckb abb nbb cbb aab nab cab (hQ.blw (onB' HX.out.1 HR.out)) (hE.blw (onB' HX.out.1 HR.out)))
      have hl1 := HL.out (j + 1)
      have hl0 := HL.out j
      rw [join_step [59, 32] _ gm, List.length_append, map_at bindT bl gj] at hl1
      have z3 : (tx (joinL [59, 32] ((bl.map bindT).take j))).size ≤ 20000000000 := by rw [tx_size]; omega
      have z4 : (tx (bindT bl[j])).size ≤ 20000000000 := by rw [tx_size]; omega
      have p0 : wr.cell? ⟨g1, o1 + j * 10, none⟩ = some (.string (tx bl[j].1)) := HP.out 0 _ rfl
      have p1 : wr.cell? ⟨g1, o1 + j * 10 + 1, none⟩ = some (.slice aq bl[j].2.1.length cq) := by rw [Nat.add_assoc]; exact HP.out 1 _ rfl
      have p2 : wr.cell? ⟨g1, o1 + j * 10 + 2, none⟩ = some (.int .i64 kb) := by rw [Nat.add_assoc]; exact HP.out 2 _ rfl
      have p3 : wr.cell? ⟨g1, o1 + j * 10 + 3, none⟩ = some (.string (tx nmb)) := by rw [Nat.add_assoc]; exact HP.out 3 _ rfl
      have p4 : wr.cell? ⟨g1, o1 + j * 10 + 4, none⟩ = some (.bool fb) := by rw [Nat.add_assoc]; exact HP.out 4 _ rfl
      have p5 : wr.cell? ⟨g1, o1 + j * 10 + 5, none⟩ = some (.int .u64 ub) := by rw [Nat.add_assoc]; exact HP.out 5 _ rfl
      have p6 : wr.cell? ⟨g1, o1 + j * 10 + 6, none⟩ = some (.slice apb npb cpb) := by rw [Nat.add_assoc]; exact HP.out 6 _ rfl
      have p7 : wr.cell? ⟨g1, o1 + j * 10 + 7, none⟩ = some (.slice akb nkb ckb) := by rw [Nat.add_assoc]; exact HP.out 7 _ rfl
      have p8 : wr.cell? ⟨g1, o1 + j * 10 + 8, none⟩ = some (.slice abb nbb cbb) := by rw [Nat.add_assoc]; exact HP.out 8 _ rfl
      have p9 : wr.cell? ⟨g1, o1 + j * 10 + 9, none⟩ = some (.slice aab nab cab) := by rw [Nat.add_assoc]; exact HP.out 9 _ rfl
      have hz : j = 0 → tx (joinL [59, 32] ((bl.map bindT).take j)) ++ tx (bindT bl[j]) = tx (joinL [59, 32] ((bl.map bindT).take (j + 1))) := fun h => by
        rw [join_step [59, 32] _ gm, map_at bindT bl gj, if_pos h]
        subst h
        rfl
      have hn : ¬ j = 0 → tx (joinL [59, 32] ((bl.map bindT).take j)) ++ ⟨#[59, 32]⟩ ++ tx (bindT bl[j]) = tx (joinL [59, 32] ((bl.map bindT).take (j + 1))) := fun h => by
        rw [join_step [59, 32] _ gm, map_at bindT bl gj, if_neg h, show (⟨#[59, 32]⟩ : ByteArray) = tx [59, 32] from rfl, tx_app, tx_app]
      have HZN := Hd (Ai hz hn)
      clear ht1 hl1 hl0 hc hE gm hQ hz hn
      generalize tx (joinL [59, 32] ((bl.map bindT).take j)) = tj at *
      generalize tx (bindT bl[j]) = tl at *
      generalize tx bl[j].1 = e0 at *
      generalize bl[j].2.1.length = e1 at *
      have hs0 : ¬ 9223372036854775807 < tj.size + tl.size := by omega
      have hs1 : ¬ 9223372036854775807 < tj.size + 2 := by omega
      have hs2 : ¬ 9223372036854775807 < tj.size + 2 + tl.size := by omega
      have ej : IntKind.i64.wrap ((j : Int) + 1) = (j : Int) + 1 := by rw [IntKind.wrap_i64]; omega
      have b0 : (0 : Int) ≤ (j : Int) := by omega
      by_cases g0 : j = 0
      · have HE1 := Hd (HZN.out.1 g0)
        have g0' : ¬ (j : Int) > 0 := by omega
        clear HZN
        subst g0
        simp only [Nat.zero_mul, Nat.add_zero] at p0 p1 p2 p3 p4 p5 p6 p7 p8 p9
        go_wp2_with fail
        refine HA.out.mono ?_
        rintro e w2 ⟨rfl, hb⟩
        have HB := Hd (onB' HR.out hb)
        clear hb HA
        go_wp2_with fail
        exact ⟨⟨0 + 1, by omega, by rw [HE1.out], by first | rfl | go_num, HB.out⟩, by simp [RowKit.intOf]; omega⟩
      · have HE1 := Hd (HZN.out.2 g0)
        have g0' : (j : Int) > 0 := by omega
        clear HZN
        go_wp2_with fail
        refine HA.out.mono ?_
        rintro e w2 ⟨rfl, hb⟩
        have HB := Hd (onB' HR.out hb)
        clear hb HA
        go_wp2_with fail
        exact ⟨⟨j + 1, by omega, by rw [HE1.out], by go_num, HB.out⟩, by simp [RowKit.intOf]; omega⟩
    · obtain rfl : j = bl.length := by omega
      have htk : (bl.map bindT).take bl.length = bl.map bindT := by rw [← List.length_map (f := bindT), List.take_length]
      rw [htk]
      have d0 : wr.cell? ⟨w.heap.size, 0, none⟩ = some (.int .i64 6) := (HX.out.2.below HR.out).1 0 _ rfl
      have d1 : wr.cell? ⟨w.heap.size, 1, none⟩ = some (.string (tx nm)) := (HX.out.2.below HR.out).1 1 _ rfl
      have d2 : wr.cell? ⟨w.heap.size, 2, none⟩ = some (.bool f) := (HX.out.2.below HR.out).1 2 _ rfl
      have d3 : wr.cell? ⟨w.heap.size, 3, none⟩ = some (.int .u64 u) := (HX.out.2.below HR.out).1 3 _ rfl
      have d4 : wr.cell? ⟨w.heap.size, 4, none⟩ = some (.slice ap ps.length cp) := (HX.out.2.below HR.out).1 4 _ rfl
      have d5 : wr.cell? ⟨w.heap.size, 5, none⟩ = some (.slice (some ⟨g2, o2, none⟩) L ck) := (HX.out.2.below HR.out).1 5 _ rfl
      have d6 : wr.cell? ⟨w.heap.size, 6, none⟩ = some (.slice ab bl.length cb) := (HX.out.2.below HR.out).1 6 _ rfl
      have d7 : wr.cell? ⟨w.heap.size, 7, none⟩ = some (.slice aa al.length ca) := (HX.out.2.below HR.out).1 7 _ rfl
      have HA := Hd (HM.out wr (onB' HX.out.1 HR.out))
      obtain ⟨p0, p1, p2, p3, p4, p5, p6, p7⟩ := HSx.out wr (onB' HX.out.1 HR.out)
      clear htk
      generalize tx (joinL [59, 32] (bl.map bindT)) = tj at *
      have hs1 : ¬ 9223372036854775807 < 4 + tj.size := by omega
      have hs2 : ¬ 9223372036854775807 < 4 + tj.size + 4 := by omega
      have hs3 : ¬ 9223372036854775807 < 4 + tj.size + 4 + M.size := by omega
      go_wp2_with fail
      refine HA.out.mono ?_
      rintro e w2 ⟨rfl, hb⟩
      have HB := Hd (onB' HX.out.1 (onB' HR.out hb))
      clear hb HA
      go_wp2_with fail
      go_ret
      exact ⟨by rw [← HE.out]; rfl, HB.out⟩
theorem dk7 (nm : Nm) (f : Bool) (u : Int) (ps : List Nm) (ks : List Ex) (bl : List Bnd) (al : List Alt) (ap : Option Addr) (cp : Nat) (ak : Option Addr) (ck : Nat) (ab : Option Addr) (cb : Nat) (aa : Option Addr) (ca : Nat) (K : Nat → Prop) (xk : List Value) (w : World) (xa : List Value) (x : Ex) (hks : ks = [x]) (hT : ∀ y, y ∈ ks → TdE y ∧ (shE y).length ≤ 20000000000) (hTa : ∀ y, y ∈ al → TdE y.2.2.2.2.2 ∧ (altT y).length ≤ 20000000000 ∧ (y.1 = 1 → NumF y.2.2.2.1)) (hl : (wordsL [99, 97, 115, 101] [shE x, [111, 102], 123 :: (joinL [59, 32] (al.map altT) ++ [125])]).length ≤ 20000000000) (hK : RowAt w K 37 8 (.slice ak ks.length ck) ks.length xk) (tK : ExsAt w K ks xk) (hA : RowAt w K 56 13 (.slice aa al.length ca) al.length xa) (tA : AltsAt w K al xa) :
    Calls Tryz.prog 9 #[.agg #[.int .i64 7, .string (tx nm), .bool f, .int .u64 u, .slice ap ps.length cp, .slice ak ks.length ck, .slice ab bl.length cb, .slice aa al.length ca]] w fun e w' => e = .returned (.string (tx (wordsL [99, 97, 115, 101] [shE x, [111, 102], 123 :: (joinL [59, 32] (al.map altT) ++ [125])]))) ∧ Below w.heap.size w w' := by
  have hx := (Below.refl w.heap.size w).alloc Nr (.cells #[.int .i64 7, .string (tx nm), .bool f, .int .u64 u, .slice ap ps.length cp, .slice ak ks.length ck, .slice ab bl.length cb, .slice aa al.length ca] 37)
  have HX := Hd (Ai hx (BoxW.alloc w #[.int .i64 7, .string (tx nm), .bool f, .int .u64 u, .slice ap ps.length cp, .slice ak ks.length ck, .slice ab bl.length cb, .slice aa al.length ca] 37))
  subst hks
  have hj : wordsL [99, 97, 115, 101] [shE x, [111, 102], 123 :: (joinL [59, 32] (al.map altT) ++ [125])] = [99, 97, 115, 101, 32] ++ shE x ++ [32, 111, 102, 32, 123] ++ joinL [59, 32] (al.map altT) ++ [125] := by simp [wordsL]
  rw [hj] at hl ⊢
  simp only [List.length_append, List.length_cons, List.length_nil] at hl
  have HL := Hd (fun j => Nt (djoin_len [59, 32] (al.map altT) j) (show (joinL [59, 32] (al.map altT)).length ≤ 20000000000 by omega))
  have hmx := hA.cap
  unfold maxLen at hmx
  obtain ⟨kx, nmx, fx, ux, apx, npx, cpx, akx, nkx, ckx, abx, nbx, cbx, aax, nax, cax, hEx, hcx⟩ := tK.cells 0 (by simp)
  obtain ⟨g2, o2, ea2, m1, m2, -, ht2⟩ := hK.at (by simp)
  subst ea2
  have hTx := (hT x (by simp)).1
  have HCx := Hd (fun (V : World) (hb : Below w.heap.size w V) i v h => later' hb (ht2 _ _ (hcx i v h)))
  have HSx : Hid (∀ V, Below w.heap.size w V → V.cell? ⟨g2, o2, none⟩ = some (.int .i64 kx) ∧ V.cell? ⟨g2, o2 + 1, none⟩ = some (.string (tx nmx)) ∧ V.cell? ⟨g2, o2 + 2, none⟩ = some (.bool fx) ∧ V.cell? ⟨g2, o2 + 3, none⟩ = some (.int .u64 ux) ∧ V.cell? ⟨g2, o2 + 4, none⟩ = some (.slice apx npx cpx) ∧ V.cell? ⟨g2, o2 + 5, none⟩ = some (.slice akx nkx ckx) ∧ V.cell? ⟨g2, o2 + 6, none⟩ = some (.slice abx nbx cbx) ∧ V.cell? ⟨g2, o2 + 7, none⟩ = some (.slice aax nax cax)) := fun V hb => ⟨by have := HCx.out V hb 0 _ rfl; simpa using this, by have := HCx.out V hb 1 _ rfl; simpa using this, by have := HCx.out V hb 2 _ rfl; simpa using this, by have := HCx.out V hb 3 _ rfl; simpa using this, by have := HCx.out V hb 4 _ rfl; simpa using this, by have := HCx.out V hb 5 _ rfl; simpa using this, by have := HCx.out V hb 6 _ rfl; simpa using this, by have := HCx.out V hb 7 _ rfl; simpa using this⟩
  have HM := Hd (fun (V : World) (hb : Below w.heap.size w V) => hTx K V kx nmx fx ux apx npx cpx akx nkx ckx abx nbx cbx aax nax cax (hEx.blw hb))
  have HO := Hd (Ai hA tA)
  have HT := Hd hTa
  have z1 : (tx (joinL [59, 32] (al.map altT))).size ≤ 20000000000 := by rw [tx_size]; omega
  have z2 : (tx (shE x)).size ≤ 20000000000 := by rw [tx_size]; omega
  have HE := Hd (show ⟨#[99, 97, 115, 101, 32]⟩ ++ tx (shE x) ++ ⟨#[32, 111, 102, 32, 123]⟩ ++ tx (joinL [59, 32] (al.map altT)) ++ ⟨#[125]⟩ = tx ([99, 97, 115, 101, 32] ++ shE x ++ [32, 111, 102, 32, 123] ++ joinL [59, 32] (al.map altT) ++ [125]) by rw [show (⟨#[99, 97, 115, 101, 32]⟩ : ByteArray) = tx [99, 97, 115, 101, 32] from rfl, show (⟨#[32, 111, 102, 32, 123]⟩ : ByteArray) = tx [32, 111, 102, 32, 123] from rfl, show (⟨#[125]⟩ : ByteArray) = tx [125] from rfl, tx_app, tx_app, tx_app, tx_app])
  have gz : (0 : Int) < (([x] : List Ex).length : Int) := by simp
  have gn0 : 0 < ([x] : List Ex).length := by simp
  clear hj hl hEx hcx ht2 hTx hT hK tK hA tA HCx hTa
  generalize tx ([99, 97, 115, 101, 32] ++ shE x ++ [32, 111, 102, 32, 123] ++ joinL [59, 32] (al.map altT) ++ [125]) = R at *
  generalize tx (shE x) = M at *
  generalize ([x] : List Ex).length = L at *
  have hmf := func_made
  clear hx 
  go_enter Tryz.func9, Tryz.ntmps9
  go_upto_region 29 with fail
  generalize (w.alloc (.cells #[.int .i64 7, .string (tx nm), .bool f, .int .u64 u, .slice ap ps.length cp, .slice (some ⟨g2, o2, none⟩) L ck, .slice ab bl.length cb, .slice aa al.length ca] 37)) = W at *
  have d0 : W.cell? ⟨w.heap.size, 0, none⟩ = some (.int .i64 7) := HX.out.2.1 0 _ rfl
  have d1 : W.cell? ⟨w.heap.size, 1, none⟩ = some (.string (tx nm)) := HX.out.2.1 1 _ rfl
  have d2 : W.cell? ⟨w.heap.size, 2, none⟩ = some (.bool f) := HX.out.2.1 2 _ rfl
  have d3 : W.cell? ⟨w.heap.size, 3, none⟩ = some (.int .u64 u) := HX.out.2.1 3 _ rfl
  have d4 : W.cell? ⟨w.heap.size, 4, none⟩ = some (.slice ap ps.length cp) := HX.out.2.1 4 _ rfl
  have d5 : W.cell? ⟨w.heap.size, 5, none⟩ = some (.slice (some ⟨g2, o2, none⟩) L ck) := HX.out.2.1 5 _ rfl
  have d6 : W.cell? ⟨w.heap.size, 6, none⟩ = some (.slice ab bl.length cb) := HX.out.2.1 6 _ rfl
  have d7 : W.cell? ⟨w.heap.size, 7, none⟩ = some (.slice aa al.length ca) := HX.out.2.1 7 _ rfl
  go_wp2_with fail
  go_loopw [5, 7] (fun s5 s6 wr => ∃ j : Nat, j ≤ al.length ∧ s5 = .string (tx (joinL [59, 32] ((al.map altT).take j))) ∧ s6 = .int .i64 j ∧ Below W.heap.size W wr) (fun _ s6 _ => al.length - (RowKit.intOf s6).toNat)
  case atStart => exact ⟨0, Nat.zero_le _, rfl, rfl, Below.refl _ _⟩
  case round =>
    obtain ⟨j, hj, rfl, rfl, hbr⟩ := hrel
    have HR := Hd hbr
    clear hbr d0 d1 d2 d3 d4 d5 d6 d7
    by_cases gj : j < al.length
    · have gj' : (j : Int) < (al.length : Int) := by omega
      have gm : j < (al.map altT).length := by rw [List.length_map]; exact gj
      obtain ⟨aq, cq, kb, nmb, fb, ub, apb, npb, cpb, akb, nkb, ckb, abb, nbb, cbb, aab, nab, cab, hQ, hE, hc⟩ := HO.out.2.cells j gj
      obtain ⟨g1, o1, ea1, k1, m1', -, ht1⟩ := HO.out.1.at (by omega)
      subst ea1
      have d0 : wr.cell? ⟨w.heap.size, 0, none⟩ = some (.int .i64 7) := (HX.out.2.below HR.out).1 0 _ rfl
      have d1 : wr.cell? ⟨w.heap.size, 1, none⟩ = some (.string (tx nm)) := (HX.out.2.below HR.out).1 1 _ rfl
      have d2 : wr.cell? ⟨w.heap.size, 2, none⟩ = some (.bool f) := (HX.out.2.below HR.out).1 2 _ rfl
      have d3 : wr.cell? ⟨w.heap.size, 3, none⟩ = some (.int .u64 u) := (HX.out.2.below HR.out).1 3 _ rfl
      have d4 : wr.cell? ⟨w.heap.size, 4, none⟩ = some (.slice ap ps.length cp) := (HX.out.2.below HR.out).1 4 _ rfl
      have d5 : wr.cell? ⟨w.heap.size, 5, none⟩ = some (.slice (some ⟨g2, o2, none⟩) L ck) := (HX.out.2.below HR.out).1 5 _ rfl
      have d6 : wr.cell? ⟨w.heap.size, 6, none⟩ = some (.slice ab bl.length cb) := (HX.out.2.below HR.out).1 6 _ rfl
      have d7 : wr.cell? ⟨w.heap.size, 7, none⟩ = some (.slice (some ⟨g1, o1, none⟩) al.length ca) := (HX.out.2.below HR.out).1 7 _ rfl
      have HP := Hd (fun i v h => later' (onB' HX.out.1 HR.out) (ht1 _ _ (hc i v h)))
      have HA := Hd ((if g1' : al[j].1 = 1 then ddalt_num al[j] (HT.out _ (List.getElem_mem gj)).1 g1' (HT.out _ (List.getElem_mem gj)).2.1 (HT.out _ (List.getElem_mem gj)).2.2 aq cq K wr kb nmb fb ub apb npb cpb akb nkb ckb abb nbb cbb aab nab cab (hQ.blw (onB' HX.out.1 HR.out)) (hE.blw (onB' HX.out.1 HR.out)) else ddalt_con al[j] (HT.out _ (List.getElem_mem gj)).1 g1' (HT.out _ (List.getElem_mem gj)).2.1 (HT.out _ (List.getElem_mem gj)).2.2 aq cq K wr kb nmb fb ub apb npb cpb akb nkb ckb abb nbb cbb aab nab cab (hQ.blw (onB' HX.out.1 HR.out)) (hE.blw (onB' HX.out.1 HR.out))))
      have hl1 := HL.out (j + 1)
      have hl0 := HL.out j
      rw [join_step [59, 32] _ gm, List.length_append, map_at altT al gj] at hl1
      have z3 : (tx (joinL [59, 32] ((al.map altT).take j))).size ≤ 20000000000 := by rw [tx_size]; omega
      have z4 : (tx (altT al[j])).size ≤ 20000000000 := by rw [tx_size]; omega
      have p0 : wr.cell? ⟨g1, o1 + j * 13, none⟩ = some (.int .i64 al[j].1) := HP.out 0 _ rfl
      have p1 : wr.cell? ⟨g1, o1 + j * 13 + 1, none⟩ = some (.string (tx al[j].2.1)) := by rw [Nat.add_assoc]; exact HP.out 1 _ rfl
      have p2 : wr.cell? ⟨g1, o1 + j * 13 + 2, none⟩ = some (.bool al[j].2.2.1) := by rw [Nat.add_assoc]; exact HP.out 2 _ rfl
      have p3 : wr.cell? ⟨g1, o1 + j * 13 + 3, none⟩ = some (.int .u64 al[j].2.2.2.1) := by rw [Nat.add_assoc]; exact HP.out 3 _ rfl
      have p4 : wr.cell? ⟨g1, o1 + j * 13 + 4, none⟩ = some (.slice aq al[j].2.2.2.2.1.length cq) := by rw [Nat.add_assoc]; exact HP.out 4 _ rfl
      have p5 : wr.cell? ⟨g1, o1 + j * 13 + 5, none⟩ = some (.int .i64 kb) := by rw [Nat.add_assoc]; exact HP.out 5 _ rfl
      have p6 : wr.cell? ⟨g1, o1 + j * 13 + 6, none⟩ = some (.string (tx nmb)) := by rw [Nat.add_assoc]; exact HP.out 6 _ rfl
      have p7 : wr.cell? ⟨g1, o1 + j * 13 + 7, none⟩ = some (.bool fb) := by rw [Nat.add_assoc]; exact HP.out 7 _ rfl
      have p8 : wr.cell? ⟨g1, o1 + j * 13 + 8, none⟩ = some (.int .u64 ub) := by rw [Nat.add_assoc]; exact HP.out 8 _ rfl
      have p9 : wr.cell? ⟨g1, o1 + j * 13 + 9, none⟩ = some (.slice apb npb cpb) := by rw [Nat.add_assoc]; exact HP.out 9 _ rfl
      have p10 : wr.cell? ⟨g1, o1 + j * 13 + 10, none⟩ = some (.slice akb nkb ckb) := by rw [Nat.add_assoc]; exact HP.out 10 _ rfl
      have p11 : wr.cell? ⟨g1, o1 + j * 13 + 11, none⟩ = some (.slice abb nbb cbb) := by rw [Nat.add_assoc]; exact HP.out 11 _ rfl
      have p12 : wr.cell? ⟨g1, o1 + j * 13 + 12, none⟩ = some (.slice aab nab cab) := by rw [Nat.add_assoc]; exact HP.out 12 _ rfl
      have hz : j = 0 → tx (joinL [59, 32] ((al.map altT).take j)) ++ tx (altT al[j]) = tx (joinL [59, 32] ((al.map altT).take (j + 1))) := fun h => by
        rw [join_step [59, 32] _ gm, map_at altT al gj, if_pos h]
        subst h
        rfl
      have hn : ¬ j = 0 → tx (joinL [59, 32] ((al.map altT).take j)) ++ ⟨#[59, 32]⟩ ++ tx (altT al[j]) = tx (joinL [59, 32] ((al.map altT).take (j + 1))) := fun h => by
        rw [join_step [59, 32] _ gm, map_at altT al gj, if_neg h, show (⟨#[59, 32]⟩ : ByteArray) = tx [59, 32] from rfl, tx_app, tx_app]
      have HZN := Hd (Ai hz hn)
      clear ht1 hl1 hl0 hc hE gm hQ hz hn
      generalize tx (joinL [59, 32] ((al.map altT).take j)) = tj at *
      generalize tx (altT al[j]) = tl at *
      generalize al[j].1 = e0 at *
      generalize tx al[j].2.1 = e1 at *
      generalize al[j].2.2.1 = e2 at *
      generalize al[j].2.2.2.1 = e3 at *
      generalize al[j].2.2.2.2.1.length = e4 at *
      have hs0 : ¬ 9223372036854775807 < tj.size + tl.size := by omega
      have hs1 : ¬ 9223372036854775807 < tj.size + 2 := by omega
      have hs2 : ¬ 9223372036854775807 < tj.size + 2 + tl.size := by omega
      have ej : IntKind.i64.wrap ((j : Int) + 1) = (j : Int) + 1 := by rw [IntKind.wrap_i64]; omega
      have b0 : (0 : Int) ≤ (j : Int) := by omega
      by_cases g0 : j = 0
      · have HE1 := Hd (HZN.out.1 g0)
        have g0' : ¬ (j : Int) > 0 := by omega
        clear HZN
        subst g0
        simp only [Nat.zero_mul, Nat.add_zero] at p0 p1 p2 p3 p4 p5 p6 p7 p8 p9 p10 p11 p12
        go_wp2_with fail
        refine HA.out.mono ?_
        rintro e w2 ⟨rfl, hb⟩
        have HB := Hd (onB' HR.out hb)
        clear hb HA
        go_wp2_with fail
        exact ⟨⟨0 + 1, by omega, by rw [HE1.out], by first | rfl | go_num, HB.out⟩, by simp [RowKit.intOf]; omega⟩
      · have HE1 := Hd (HZN.out.2 g0)
        have g0' : (j : Int) > 0 := by omega
        clear HZN
        go_wp2_with fail
        refine HA.out.mono ?_
        rintro e w2 ⟨rfl, hb⟩
        have HB := Hd (onB' HR.out hb)
        clear hb HA
        go_wp2_with fail
        exact ⟨⟨j + 1, by omega, by rw [HE1.out], by go_num, HB.out⟩, by simp [RowKit.intOf]; omega⟩
    · obtain rfl : j = al.length := by omega
      have htk : (al.map altT).take al.length = al.map altT := by rw [← List.length_map (f := altT), List.take_length]
      rw [htk]
      have d0 : wr.cell? ⟨w.heap.size, 0, none⟩ = some (.int .i64 7) := (HX.out.2.below HR.out).1 0 _ rfl
      have d1 : wr.cell? ⟨w.heap.size, 1, none⟩ = some (.string (tx nm)) := (HX.out.2.below HR.out).1 1 _ rfl
      have d2 : wr.cell? ⟨w.heap.size, 2, none⟩ = some (.bool f) := (HX.out.2.below HR.out).1 2 _ rfl
      have d3 : wr.cell? ⟨w.heap.size, 3, none⟩ = some (.int .u64 u) := (HX.out.2.below HR.out).1 3 _ rfl
      have d4 : wr.cell? ⟨w.heap.size, 4, none⟩ = some (.slice ap ps.length cp) := (HX.out.2.below HR.out).1 4 _ rfl
      have d5 : wr.cell? ⟨w.heap.size, 5, none⟩ = some (.slice (some ⟨g2, o2, none⟩) L ck) := (HX.out.2.below HR.out).1 5 _ rfl
      have d6 : wr.cell? ⟨w.heap.size, 6, none⟩ = some (.slice ab bl.length cb) := (HX.out.2.below HR.out).1 6 _ rfl
      have d7 : wr.cell? ⟨w.heap.size, 7, none⟩ = some (.slice aa al.length ca) := (HX.out.2.below HR.out).1 7 _ rfl
      have HA := Hd (HM.out wr (onB' HX.out.1 HR.out))
      obtain ⟨p0, p1, p2, p3, p4, p5, p6, p7⟩ := HSx.out wr (onB' HX.out.1 HR.out)
      clear htk
      generalize tx (joinL [59, 32] (al.map altT)) = tj at *
      have hs1 : ¬ 9223372036854775807 < 5 + M.size := by omega
      have hs2 : ¬ 9223372036854775807 < 5 + M.size + 5 := by omega
      have hs3 : ¬ 9223372036854775807 < 5 + M.size + 5 + tj.size := by omega
      have hs4 : ¬ 9223372036854775807 < 5 + M.size + 5 + tj.size + 1 := by omega
      go_wp2_with fail
      refine HA.out.mono ?_
      rintro e w2 ⟨rfl, hb⟩
      have HB := Hd (onB' HX.out.1 (onB' HR.out hb))
      clear hb HA
      go_wp2_with fail
      go_ret
      exact ⟨by rw [← HE.out]; rfl, HB.out⟩
theorem dtext_all : ∀ (n : Nat) (x : Ex), SizeOf.sizeOf x ≤ n → kfE x → wfE x → wxE x ≤ 100000 → TdE x := by
  intro n
  induction n with
  | zero =>
    intro x hs
    cases x
    simp at hs
  | succ n ih =>
    intro x hs hk hw hx K W k nm f u ap np cp ak nk ck ab nb cb aa na ca hE
    obtain ⟨ps, ks, bl, al, xk, xb, xa, rfl, rfl, rfl, rfl, rfl, hP, hK, hB, hA, tK, tB, tA⟩ := hE.opened
    have hl := sh_len hk hw hx
    rw [shE_mk] at hl ⊢
    rw [wxE_mk] at hx
    unfold kfE at hk
    unfold wfE at hw
    obtain ⟨k0, k1, k2, k3, k4, k5, k6, k7, k8⟩ := hk
    obtain ⟨-, -, w3, w4, w5, w6, w7, -, -⟩ := hw
    simp only [Ex.mk.sizeOf_spec] at hs
    have nks := wx_kids ks k6
    have nbs := sum_len xB2 (fun b => by show 1 ≤ 2 + _ + _; omega) bl
    have nas := sum_len xA (fun b => by show 1 ≤ 1 + _ + _; omega) al
    have lbs := bindsLB bl k7 w6
    have las := altsLB al k8 w7
    have hT : ∀ y, y ∈ ks → TdE y ∧ (shE y).length ≤ 20000000000 := fun y hy => by
      have h1 := List.sizeOf_lt_of_mem hy
      have h2 := sumN_mem wxE hy
      have h3 := kfEs_mem k6 y hy
      have h4 := wfEs_mem w5 y hy
      exact ⟨ih y (by omega) h3 h4 (by omega), sh_len h3 h4 (by omega)⟩
    have hTb : ∀ y, y ∈ bl → TdE y.2.2 ∧ (bindT y).length ≤ 20000000000 := fun y hy => by
      have h1 := List.sizeOf_lt_of_mem hy
      have h2 : 2 + y.2.1.length + wxE y.2.2 ≤ sumN xB2 bl := sumN_mem xB2 hy
      have h3 := kfBs_mem k7 y hy
      have h4 := wfBs_mem w6 y hy
      have h5 : (bindT y).length + 2 ≤ _ := sumN_mem (fun b => (bindT b).length + 2) hy
      refine ⟨ih y.2.2 ?_ h3 h4.2.2 ?_, by omega⟩
      · obtain ⟨a, b, c⟩ := y
        simp only [Prod.mk.sizeOf_spec] at h1 ⊢
        omega
      · omega
    have hTa : ∀ y, y ∈ al → TdE y.2.2.2.2.2 ∧ (altT y).length ≤ 20000000000 ∧ (y.1 = 1 → NumF y.2.2.2.1) := fun y hy => by
      have h1 := List.sizeOf_lt_of_mem hy
      have h2 : 1 + y.2.2.2.2.1.length + wxE y.2.2.2.2.2 ≤ sumN xA al := sumN_mem xA hy
      have h3 := kfAs_mem k8 y hy
      have h4 := wfAs_mem w7 y hy
      have h5 : (altT y).length + 2 ≤ _ := sumN_mem (fun b => (altT b).length + 2) hy
      refine ⟨ih y.2.2.2.2.2 ?_ h3.2.2 h4.2.2 ?_, by omega, fun g => (h3.2.1 g).1⟩
      · obtain ⟨a, b, c, d, e, g⟩ := y
        simp only [Prod.mk.sizeOf_spec] at h1 ⊢
        omega
      · omega
    have c : k = 1 ∨ k = 2 ∨ k = 3 ∨ k = 4 ∨ k = 5 ∨ k = 6 ∨ k = 7 ∨ k = 8 := by omega
    rcases c with rfl | rfl | rfl | rfl | rfl | rfl | rfl | rfl
    · exact dk1 nm f u ps ks bl al ap cp ak ck ab cb aa ca K xk W
    · exact dk2 nm f u ps ks bl al ap cp ak ck ab cb aa ca K xk W hT hl hK tK
    · exact dk3 nm f u ps ks bl al ap cp ak ck ab cb aa ca K xk W (k4 rfl)
    · have h4 := k1 rfl
      cases ks with
      | nil => simp at h4
      | cons x rest => exact dk4 nm f u ps (x :: rest) bl al ap cp ak ck ab cb aa ca K xk W x rest rfl h4 hT hl hK tK
    · rcases k3 rfl with ⟨g, hc⟩ | ⟨g, hc, a, b, rfl⟩
      · simp only [g, if_true] at hl ⊢
        exact dk5w nm f u ps ks bl al ap cp ak ck ab cb aa ca K xk W hc hT hl hK tK
      · simp only [g] at hl ⊢
        exact dk5s nm f u ps [a, b] bl al ap cp ak ck ab cb aa ca K xk W hc a b rfl hT hl hK tK
    · obtain ⟨x, rfl⟩ := k2 (Or.inl rfl)
      exact dk6 nm f u ps [x] bl al ap cp ak ck ab cb aa ca K xk W xb x rfl hT hTb hl hK tK hB tB
    · obtain ⟨x, rfl⟩ := k2 (Or.inr (Or.inl rfl))
      exact dk7 nm f u ps [x] bl al ap cp ak ck ab cb aa ca K xk W xa x rfl hT hTa hl hK tK hA tA
    · obtain ⟨x, rfl⟩ := k2 (Or.inr (Or.inr rfl))
      exact dk8 nm f u ps [x] bl al ap cp ak ck ab cb aa ca K xk W x rfl hT (k5 rfl) hl hP hK tK
end Go.Proofs.YthehgcmhcioffaaGreatDoor
