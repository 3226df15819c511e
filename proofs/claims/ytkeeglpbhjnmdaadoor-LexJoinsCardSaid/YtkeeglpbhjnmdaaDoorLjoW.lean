/- LexJoins: its walk. -/
import Derived.Test.YtkeeglpbhjnmdaaDoorLinV
import Derived.Test.YtkeeglpbhjnmdaaDoorLxS
namespace Go.Proofs.YtkeeglpbhjnmdaaDoor
open Go.RowKit Go.Lib

theorem count_snoc (s : ByteArray) (k : Nat) (hk : k < s.size) : (s.data.toList.take (k + 1)).count 10 = (s.data.toList.take k).count 10 + (if s.data.toList.getD k 0 = 10 then 1 else 0) := by
  have h' : k < s.data.toList.length := by rw [← size_eq]; exact hk
  rw [List.take_succ_eq_append_getElem h', List.count_append]
  have e : s.data.toList.getD k 0 = s.data.toList[k] := by rw [List.getD, List.getElem?_eq_getElem h']; rfl
  rw [e]
  by_cases g : s.data.toList[k] = 10
  · rw [if_pos g, g]; rfl
  · rw [if_neg g, List.count_singleton, if_neg (by simpa using g)]
theorem byte_ten (c : UInt8) : (((c.toNat : Int) == 10) = true ∧ c = 10) ∨ (((c.toNat : Int) == 10) = false ∧ c ≠ 10) := by
  by_cases g : c = 10
  · subst g; exact Or.inl ⟨rfl, rfl⟩
  · refine Or.inr ⟨?_, g⟩
    have : c.toNat ≠ 10 := fun e => g (UInt8.toNat_inj.1 (by rw [e]; rfl))
    simp
    omega

theorem setCell_val2 {W : World} {a : Addr} {u z : Value} (h : W.cell? a = some z) : (W.setCell a u).cell? a = some u := by
  first
  | exact World.cell?_setCell_same h
  | simp [go_sem, h]

/-- A token in a box of its own. -/
structure TB (W : World) (p : Nat) (kd : Int) (bt : ByteArray) (ff : Bool) (xx ln : Int) : Prop where
  c0 : W.cell? ⟨p, 0, none⟩ = some (.int .i64 kd)
  c1 : W.cell? ⟨p, 1, none⟩ = some (.string bt)
  c2 : W.cell? ⟨p, 2, none⟩ = some (.bool ff)
  c3 : W.cell? ⟨p, 3, none⟩ = some (.int .u64 xx)
  c4 : W.cell? ⟨p, 4, none⟩ = some (.int .i64 ln)
  z : ∀ j, W.frozen? ⟨p, j, none⟩ = false
theorem TB.later {W W' : World} {b : Nat} {kd : Int} {bt : ByteArray} {ff : Bool} {xx ln : Int} (h : TB W b kd bt ff xx ln) (hb : Below W.heap.size W W') : TB W' b kd bt ff xx ln := by
  have lt := World.block_lt_of_cell? _ _ h.c0
  exact ⟨later' hb h.c0, later' hb h.c1, later' hb h.c2, later' hb h.c3, later' hb h.c4, fun j => (World.frozen?_of_block (w := W) (hb.block _ (by simpa using lt))).trans (h.z j)⟩

theorem TB.line {W : World} {p : Nat} {kd : Int} {bt : ByteArray} {ff : Bool} {xx ln l : Int} (h : TB W p kd bt ff xx ln) : TB (W.setCell ⟨p, 4, none⟩ (.int .i64 l)) p kd bt ff xx l := by
  obtain ⟨c0, c1, c2, c3, c4, z⟩ := h
  refine ⟨?_, ?_, ?_, ?_, ?_, fun j => ?_⟩
  · simp [go_sem, c0]
  · simp [go_sem, c1]
  · simp [go_sem, c2]
  · simp [go_sem, c3]
  · exact setCell_val2 c4
  · simp [z]
theorem TB.other {W : World} {p q : Nat} {kd : Int} {bt : ByteArray} {ff : Bool} {xx ln : Int} (h : TB W p kd bt ff xx ln) (hn : q ≠ p) (v : Value) : TB (W.setCell ⟨q, 4, none⟩ v) p kd bt ff xx ln := by
  obtain ⟨c0, c1, c2, c3, c4, z⟩ := h
  refine ⟨?_, ?_, ?_, ?_, ?_, fun j => ?_⟩
  · simp [go_sem, c0]
  · simp [go_sem, c1]
  · simp [go_sem, c2]
  · simp [go_sem, c3]
  · simp [go_sem, c4]
  · simp [z]
theorem TB.drew {W : World} {p : Nat} {kd : Int} {bt : ByteArray} {ff : Bool} {xx ln : Int} (h : TB W p kd bt ff xx ln) : TB W.drew p kd bt ff xx ln := h.later ⟨rfl, rfl, rfl, Nat.le_refl _, fun _ _ => rfl⟩
theorem tb_new (W : World) (kd : Int) (bt : ByteArray) (ff : Bool) (xx ln : Int) : TB (W.alloc (.cells #[.int .i64 kd, .string bt, .bool ff, .int .u64 xx, .int .i64 ln] 35)) W.heap.size kd bt ff xx ln := ⟨by simp [go_sem], by simp [go_sem], by simp [go_sem], by simp [go_sem], by simp [go_sem], fun j => by simp⟩
theorem tb_first (W : World) (kd : Int) (bt : ByteArray) (ff : Bool) (xx ln : Int) (o : Obj) : TB ((W.alloc (.cells #[.int .i64 kd, .string bt, .bool ff, .int .u64 xx, .int .i64 ln] 35)).alloc o).drew W.heap.size kd bt ff xx ln := ((tb_new W kd bt ff xx ln).later ((Below.refl _ _).alloc (Nat.le_refl _) _)).drew
theorem tb_second (W : World) (kd : Int) (bt : ByteArray) (ff : Bool) (xx ln : Int) (o : Obj) : TB ((W.alloc o).alloc (.cells #[.int .i64 kd, .string bt, .bool ff, .int .u64 xx, .int .i64 ln] 35)).drew (W.heap.size + 1) kd bt ff xx ln := by
  have h := (tb_new (W.alloc o) kd bt ff xx ln).drew
  rwa [World.size_alloc] at h
theorem two_below (W : World) (o1 o2 : Obj) : Below W.heap.size W ((W.alloc o1).alloc o2).drew := (((Below.refl _ _).alloc (Nat.le_refl _) _).alloc (by simp) _).trans ⟨rfl, rfl, rfl, Nat.le_refl _, fun _ _ => rfl⟩

/-- What the four of them tell. -/
def Four (Ra Rb Rc Rd : Res) (L : Int) : Prop :=
  (∃ e k, e ≠ 0 ∧ Ra = .bad e k ∧ Rc = .bad e k ∧ Rd = .bad e k) ∨
  (∃ A e k, e ≠ 0 ∧ Ra = .good A ∧ Rb = .bad e k ∧ Rc = .bad e (k + L) ∧ Rd = .bad e (k + L + 1)) ∨
  (∃ A B, Ra = .good A ∧ Rb = .good B ∧ Rc = .good (A ++ B.map fun x => (x.1, x.2 + L)) ∧ Rd = .good (A ++ B.map fun x => (x.1, x.2 + L + 1)))
theorem four_of (s t m : List UInt8) (hs : s.length ≤ 2000) (ht : t.length ≤ 2000) (h10 : m.count 10 = 0) :
    Four (lexL s) (lexL t) (lexL (s ++ 10 :: t)) (lexL (s ++ 10 :: (45 :: 45 :: m ++ 10 :: t))) (s.count 10 + 1) := by
  have hc := lexL_join s t (by omega)
  have hd := lexL_join3 s t m (by omega) h10
  rw [hc, hd]
  cases ha : lexL s with
  | bad e k => exact Or.inl ⟨e, k, lexL_bad ha, rfl, rfl, rfl⟩
  | good A =>
    cases hb : lexL t with
    | bad e k =>
      refine Or.inr (Or.inl ⟨A, e, k, lexL_bad hb, rfl, rfl, rfl, ?_⟩)
      simp only [Res.join, Res.shift, Res.ahead]
      congr 1
      omega
    | good B =>
      refine Or.inr (Or.inr ⟨A, B, rfl, rfl, rfl, ?_⟩)
      simp only [Res.join, Res.shift, Res.ahead]
      congr 2
      refine List.map_congr_left fun x _ => ?_
      simp
      omega

theorem three_at {A B C D : List (Tk × Int)} {L : Int} (hC : C = A ++ B.map fun x => (x.1, x.2 + L)) (hD : D = A ++ B.map fun x => (x.1, x.2 + L + 1)) (j : Nat) (h1 : j < C.length) (h2 : j < D.length) :
    ∃ (y : Tk) (lx ly : Int), C[j] = (y, lx) ∧ D[j] = (y, ly) ∧ ((∃ h : j < A.length, A[j] = (y, lx) ∧ ly = lx) ∨ (A.length ≤ j ∧ ∃ (h : j - A.length < B.length) (lz : Int), B[j - A.length] = (y, lz) ∧ lx = lz + L ∧ ly = lx + 1)) := by
  subst hC
  subst hD
  by_cases g : j < A.length
  · refine ⟨A[j].1, A[j].2, A[j].2, ?_, ?_, Or.inl ⟨g, rfl, rfl⟩⟩
    · rw [List.getElem_append_left g]
    · rw [List.getElem_append_left g]
  · have h3 : j - A.length < B.length := by simp only [List.length_append, List.length_map] at h1; omega
    refine ⟨B[j - A.length].1, B[j - A.length].2 + L, B[j - A.length].2 + L + 1, ?_, ?_, Or.inr ⟨by omega, h3, B[j - A.length].2, rfl, rfl, rfl⟩⟩
    · rw [List.getElem_append_right (by omega), List.getElem_map]
    · rw [List.getElem_append_right (by omega), List.getElem_map]

set_option maxHeartbeats 16000000 in
set_option maxRecDepth 100000 in
theorem joins_walk (s t r : ByteArray) (w : World) (hS : SG w) (hE : EE w) :
    Calls Tryd.prog 5 #[.string s, .string t, .string r] w fun e w' => e = .returned (.bool true) ∧ Below w.heap.size w w' := by
  have HSE := Lib.hid (And.intro hS hE)
  clear hS hE
  go_enter Tryd.func5, Tryd.ntmps5
  go_wp2_with fail
  refine (lawake_any w HSE.out.1 HSE.out.2).mono ?_
  rintro e w1 ⟨rfl, hb⟩
  have H1 := Lib.hid (And.intro hb (And.intro (HSE.out.1.below hb) (HSE.out.2.below hb)))
  clear hb HSE
  by_cases g1 : 2000 < s.size
  · have f1 : decide ((2000 : Int) < (s.size : Int)) = true := decide_eq_true (by omega)
    go_wp2_with fail
    go_ret
    exact ⟨rfl, H1.out.1⟩
  have f1 : decide ((2000 : Int) < (s.size : Int)) = false := decide_eq_false (by omega)
  by_cases g2 : 2000 < t.size
  · have f2 : decide ((2000 : Int) < (t.size : Int)) = true := decide_eq_true (by omega)
    go_wp2_with fail
    go_ret
    exact ⟨rfl, H1.out.1⟩
  have f2 : decide ((2000 : Int) < (t.size : Int)) = false := decide_eq_false (by omega)
  by_cases g3 : 500 < r.size
  · have f3 : decide ((500 : Int) < (r.size : Int)) = true := decide_eq_true (by omega)
    go_wp2_with fail
    go_ret
    exact ⟨rfl, H1.out.1⟩
  have f3 : decide ((500 : Int) < (r.size : Int)) = false := decide_eq_false (by omega)
  go_wp2_with fail
  clear f1 f2 f3
  go_loop [7, 8] (fun s7 s8 => ∃ k : Nat, k ≤ s.size ∧ s7 = .int .i64 (((s.data.toList.take k).count 10 : Nat) + 1) ∧ s8 = .int .i64 k) (fun _ s8 => s.size - (RowKit.intOf s8).toNat)
  case atStart => exact ⟨0, Nat.zero_le _, rfl, rfl⟩
  case round =>
    obtain ⟨k, hk, rfl, rfl⟩ := hrel
    have hcl : (s.data.toList.take k).count 10 ≤ k := Nat.le_trans List.count_le_length (List.length_take_le _ _)
    by_cases hlt : k < s.size
    · have hlt' : (k : Int) < (s.size : Int) := by omega
      have hcs := count_snoc s k hlt
      have hix := fun W => letter_at s k hlt W
      have ek : IntKind.i64.wrap ((k : Int) + 1) = (k : Int) + 1 := by rw [IntKind.wrap_i64]; omega
      rcases byte_ten (s.data.toList.getD k 0) with ⟨h10, e10⟩ | ⟨h10, e10⟩
      · rw [if_pos e10] at hcs
        have HCS := Lib.hid hcs
        generalize s.data.toList.getD k 0 = c at *
        generalize (s.data.toList.take k).count 10 = q at *
        have eq1 : IntKind.i64.wrap (((q : Nat) : Int) + 1 + 1) = (q : Int) + 1 + 1 := by rw [IntKind.wrap_i64]; omega
        clear hcs e10
        go_wp2_with fail
        exact ⟨⟨k + 1, by omega, by rw [HCS.out]; go_num, by go_num⟩, by simp [RowKit.intOf]; omega⟩
      · rw [if_neg e10] at hcs
        have HCS := Lib.hid hcs
        generalize s.data.toList.getD k 0 = c at *
        generalize (s.data.toList.take k).count 10 = q at *
        clear hcs e10
        go_wp2_with fail
        exact ⟨⟨k + 1, by omega, by rw [HCS.out]; go_num, by go_num⟩, by simp [RowKit.intOf]; omega⟩
    · obtain rfl : k = s.size := by omega
      have hall : (s.data.toList.take s.size).count 10 = s.data.toList.count 10 := by rw [List.take_of_length_le (by rw [← size_eq]; exact Nat.le_refl _)]
      rw [hall] at hcl ⊢
      clear hall
      generalize hLN : s.data.toList.count 10 = L at *
      have HLN := Lib.hid hLN
      clear hLN
      go_wp2_with fail
      go_loop [9] (fun s9 => ∃ k : Nat, k ≤ r.size ∧ s9 = .int .i64 k ∧ Hid ((r.data.toList.take k).count 10 = 0)) (fun s9 => r.size - (RowKit.intOf s9).toNat)
      case atStart => exact ⟨0, Nat.zero_le _, rfl, Lib.hid rfl⟩
      case round =>
        obtain ⟨k, hk, rfl, HQ⟩ := hrel
        by_cases hlt : k < r.size
        · have hlt' : (k : Int) < (r.size : Int) := by omega
          have hcs := count_snoc r k hlt
          have hix := fun W => letter_at r k hlt W
          have ek : IntKind.i64.wrap ((k : Int) + 1) = (k : Int) + 1 := by rw [IntKind.wrap_i64]; omega
          rcases byte_ten (r.data.toList.getD k 0) with ⟨h10, e10⟩ | ⟨h10, e10⟩
          · generalize r.data.toList.getD k 0 = c at *
            clear hcs e10
            go_wp2_with fail
            go_ret
            exact ⟨rfl, H1.out.1⟩
          · rw [if_neg e10, HQ.out] at hcs
            have HCS := Lib.hid hcs
            generalize r.data.toList.getD k 0 = c at *
            clear hcs e10
            go_wp2_with fail
            exact ⟨⟨k + 1, by omega, by go_num, HCS⟩, by simp [RowKit.intOf]; omega⟩
        · obtain rfl : k = r.size := by omega
          have h10 : r.data.toList.count 10 = 0 := by
            have := HQ.out
            rwa [List.take_of_length_le (by rw [← size_eq]; exact Nat.le_refl _)] at this
          have hF := four_of s.data.toList t.data.toList r.data.toList (by rw [← size_eq]; omega) (by rw [← size_eq]; omega) h10
          rw [HLN.out] at hF
          have hl3 : (s ++ ⟨#[10]⟩ ++ t).data.toList = s.data.toList ++ 10 :: t.data.toList := by rw [cat_list, cat_list]; simp
          have hl4 : (s ++ ⟨#[10, 45, 45]⟩ ++ r ++ ⟨#[10]⟩ ++ t).data.toList = s.data.toList ++ 10 :: (45 :: 45 :: r.data.toList ++ 10 :: t.data.toList) := by rw [cat_list, cat_list, cat_list, cat_list]; simp
          have hz3 : (s ++ ⟨#[10]⟩ ++ t).size ≤ 100000 := by rw [size_eq, hl3, List.length_append, List.length_cons, ← size_eq, ← size_eq]; omega
          have hz4 : (s ++ ⟨#[10, 45, 45]⟩ ++ r ++ ⟨#[10]⟩ ++ t).size ≤ 100000 := by rw [size_eq, hl4]; simp only [List.length_append, List.length_cons]; rw [← size_eq, ← size_eq, ← size_eq]; omega
          rw [← hl3, ← hl4] at hF
          have hbs := lexL_bd s.data.toList
          have hbt := lexL_bd t.data.toList
          rw [← size_eq] at hbs hbt
          have HF := Lib.hid (And.intro hF (And.intro hbs hbt))
          have HZ := Lib.hid (And.intro hz3 hz4)
          have HL1 := Lib.hid (lex_any s (by omega) w1 H1.out.2.1 H1.out.2.2)
          clear h10 hF hl3 hl4 hz3 hz4 hbs hbt
          go_wp2_with fail
          refine HL1.out.mono ?_
          intro e w2 h2
          obtain ⟨A, a1, c1, e1, l1, rfl, hown1, hb2, hv1⟩ := h2.view
          have H2 := Lib.hid (And.intro (onB' H1.out.1 hb2) (And.intro hown1 (And.intro (H1.out.2.1.below hb2) (H1.out.2.2.below hb2))))
          have HV1 := Lib.hid hv1
          have HL2 := Lib.hid (lex_any t (by omega) w2 H2.out.2.2.1 H2.out.2.2.2)
          clear h2 hown1 hb2 hv1 HL1
          go_wp2_with fail
          refine HL2.out.mono ?_
          intro e w3 h3
          obtain ⟨B, a2, c2, e2, l2, rfl, hown2, hb3, hv2⟩ := h3.view
          have H3 := Lib.hid (And.intro (onB' H2.out.1 hb3) (And.intro (own_below H2.out.2.1 hb3) (And.intro hown2 (And.intro (H2.out.2.2.1.below hb3) (H2.out.2.2.2.below hb3)))))
          have HV2 := Lib.hid hv2
          have HL3 := Lib.hid (lex_any _ HZ.out.1 w3 H3.out.2.2.2.1 H3.out.2.2.2.2)
          clear h3 hown2 hb3 hv2 HL2 H2
          go_wp2_with fail
          refine HL3.out.mono ?_
          intro e w4 h4
          obtain ⟨C, a3, c3, e3, l3, rfl, hown3, hb4, hv3⟩ := h4.view
          have H4 := Lib.hid (And.intro (onB' H3.out.1 hb4) (And.intro (own_below H3.out.2.1 hb4) (And.intro (own_below H3.out.2.2.1 hb4) (And.intro hown3 (And.intro (H3.out.2.2.2.1.below hb4) (H3.out.2.2.2.2.below hb4))))))
          have HV3 := Lib.hid hv3
          have HL4 := Lib.hid (lex_any _ HZ.out.2 w4 H4.out.2.2.2.2.1 H4.out.2.2.2.2.2)
          clear h4 hown3 hb4 hv3 HL3 H3
          go_wp2_with fail
          refine HL4.out.mono ?_
          intro e w5 h5
          obtain ⟨D, a4, c4, e4, l4, rfl, hown4, hb5, hv4⟩ := h5.view
          have H5 := Lib.hid (And.intro (onB' H4.out.1 hb5) (And.intro (own_below H4.out.2.1 hb5) (And.intro (own_below H4.out.2.2.1 hb5) (And.intro (own_below H4.out.2.2.2.1 hb5) hown4))))
          have HV4 := Lib.hid hv4
          clear h5 hown4 hb5 hv4 HL4 H4
          obtain ⟨hF, hbs, hbt⟩ := HF.out
          rcases hF with ⟨e, k, h0, ra, rc, rd⟩ | ⟨A', e, k, h0, ra, rb, rc, rd⟩ | ⟨A', B', ra, rb, rc, rd⟩
          · have v1 := HV1.out
            have v3 := HV3.out
            have v4 := HV4.out
            rw [ra] at v1
            rw [rc] at v3
            rw [rd] at v4
            rcases v1 with ⟨q, -⟩ | ⟨q, rfl⟩
            · cases q
            cases q
            rcases v3 with ⟨q, -⟩ | ⟨q, rfl⟩
            · cases q
            cases q
            rcases v4 with ⟨q, -⟩ | ⟨q, rfl⟩
            · cases q
            cases q
            have u1 : (e1 != 0) = true := by simpa using h0
            clear ra rc rd h0 hbs hbt
            go_wp2_with fail
            go_ret
            exact ⟨rfl, H5.out.1⟩
          · have v1 := HV1.out
            have v2 := HV2.out
            have v3 := HV3.out
            have v4 := HV4.out
            rw [ra] at v1
            rw [rb] at v2 hbt
            rw [rc] at v3
            rw [rd] at v4
            rcases v1 with ⟨q, rfl, rfl⟩ | ⟨q, -⟩
            rotate_left
            · cases q
            rcases v2 with ⟨q, -⟩ | ⟨q, rfl⟩
            · cases q
            cases q
            rcases v3 with ⟨q, -⟩ | ⟨q, rfl⟩
            · cases q
            cases q
            rcases v4 with ⟨q, -⟩ | ⟨q, rfl⟩
            · cases q
            cases q
            have u1 : (e2 != 0) = true := by simpa using h0
            have hbt' : 0 ≤ l2 ∧ l2 ≤ 1 + (t.size : Int) := hbt
            have ea : IntKind.i64.wrap (l2 + ((L : Int) + 1)) = l2 + ((L : Int) + 1) := by rw [IntKind.wrap_i64]; omega
            have eb : IntKind.i64.wrap (l2 + ((L : Int) + 1) + 1) = l2 + ((L : Int) + 1) + 1 := by rw [IntKind.wrap_i64]; omega
            clear ra rb rc rd h0 hbs hbt
            go_wp2_with fail
            go_ret
            exact ⟨rfl, H5.out.1⟩
          · have v1 := HV1.out
            have v2 := HV2.out
            have v3 := HV3.out
            have v4 := HV4.out
            rw [ra] at v1 hbs
            rw [rb] at v2 hbt
            rw [rc] at v3
            rw [rd] at v4
            rcases v1 with ⟨q, rfl, rfl⟩ | ⟨q, -⟩
            rotate_left
            · cases q
            cases q
            rcases v2 with ⟨q, rfl, rfl⟩ | ⟨q, -⟩
            rotate_left
            · cases q
            cases q
            rcases v3 with ⟨q, rfl, rfl⟩ | ⟨q, -⟩
            rotate_left
            · cases q
            rcases v4 with ⟨q4, rfl, rfl⟩ | ⟨q4, -⟩
            rotate_left
            · cases q4
            have hC := (Res.good.inj q).symm
            have hD := (Res.good.inj q4).symm
            have hlC : C.length = A.length + B.length := by rw [hC, List.length_append, List.length_map]
            have hlD : D.length = A.length + B.length := by rw [hD, List.length_append, List.length_map]
            obtain ⟨n, hn⟩ : ∃ n, A.length + B.length = n := ⟨_, rfl⟩
            have hmA := own_max H5.out.2.1
            have hmC := own_max H5.out.2.2.2.1
            unfold maxLen at hmA hmC
            rw [hn] at hlC hlD
            rw [hlC] at hmC
            have hA2 : A.length ≤ n := by omega
            have ea : IntKind.i64.wrap ((A.length : Int) + (B.length : Int)) = (n : Int) := by rw [IntKind.wrap_i64]; omega
            rw [hlC, hlD]
            have HCD := Lib.hid (And.intro hC (And.intro hD (And.intro hlC (And.intro hlD (And.intro hn (And.intro hbs hbt))))))
            clear hC hD hlC hlD hn q q4 ra rb rc rd hbs hbt HV1 HV2 HV3 HV4 HF
            go_wp2_with fail
            go_loopw [22] (fun s22 wr => ∃ j : Nat, j ≤ n ∧ s22 = .int .i64 j ∧ Below w5.heap.size w5 wr) (fun s22 _ => n - (RowKit.intOf s22).toNat)
            case atStart => exact ⟨0, Nat.zero_le _, rfl, Below.refl _ _⟩
            case round =>
              obtain ⟨j, hj, rfl, hbr⟩ := hrel
              have HBR := Lib.hid hbr
              clear hbr
              by_cases gj : j < n
              · have gj' : (j : Int) < (n : Int) := by omega
                obtain ⟨hC, hD, hlC, hlD, hn, hbs, hbt⟩ := HCD.out
                obtain ⟨g3, ea3, ht3⟩ := own_tok H5.out.2.2.2.1 (show j < C.length by omega)
                obtain ⟨g4, ea4, ht4⟩ := own_tok H5.out.2.2.2.2 (show j < D.length by omega)
                subst ea3
                subst ea4
                replace ht3 := ht3.later HBR.out
                replace ht4 := ht4.later HBR.out
                have ej : IntKind.i64.wrap ((j : Int) + 1) = (j : Int) + 1 := by rw [IntKind.wrap_i64]; omega
                obtain ⟨y, lx, ly, eC, eD, hcase⟩ := three_at hC hD j (by omega) (by omega)
                rw [eC] at ht3
                rw [eD] at ht4
                clear eC eD hC hD
                obtain ⟨kd, tx, ff, xx⟩ := y
                obtain ⟨p0, p1, p2, p3, p4⟩ := ht3
                obtain ⟨q0, q1, q2, q3, q4⟩ := ht4
                simp only at p0 p1 p2 p3 p4 q0 q1 q2 q3 q4
                have HCS := Lib.hid hcase
                obtain ⟨bt, hbt2⟩ : ∃ bt : ByteArray, (⟨tx.toArray⟩ : ByteArray) = bt := ⟨_, rfl⟩
                rw [hbt2] at p1 q1
                have HBT := Lib.hid hbt2
                clear hcase hbs hbt hn hlC hlD hbt2
                have b0 : (0 : Int) ≤ (j : Int) := by omega
                go_upto_region 29 with fail
                have hW : Below wr.heap.size wr wr := Below.refl _ _
                go_cut [23, 24] (fun va vb wx => ∃ p q, va = .pointer (some ⟨p, 0, none⟩) ∧ vb = .pointer (some ⟨q, 0, none⟩) ∧ Below wr.heap.size wr wx ∧ TB wx p kd bt ff xx lx ∧ TB wx q kd bt ff xx ly ∧ p ≠ q ∧ wr.heap.size ≤ p ∧ wr.heap.size ≤ q)
                case first =>
                  go_region_held3 (fun w' => w'.cell? ⟨g3, j * 5, none⟩ = some (.int .i64 kd) ∧ w'.cell? ⟨g3, j * 5 + 1, none⟩ = some (.string bt) ∧ w'.cell? ⟨g3, j * 5 + 2, none⟩ = some (.bool ff) ∧ w'.cell? ⟨g3, j * 5 + 3, none⟩ = some (.int .u64 xx) ∧ w'.cell? ⟨g3, j * 5 + 4, none⟩ = some (.int .i64 lx) ∧ w'.cell? ⟨g4, j * 5, none⟩ = some (.int .i64 kd) ∧ w'.cell? ⟨g4, j * 5 + 1, none⟩ = some (.string bt) ∧ w'.cell? ⟨g4, j * 5 + 2, none⟩ = some (.bool ff) ∧ w'.cell? ⟨g4, j * 5 + 3, none⟩ = some (.int .u64 xx) ∧ w'.cell? ⟨g4, j * 5 + 4, none⟩ = some (.int .i64 ly)) (first | assumption | trivial | go_keep) (fail)
                  all_goals
                    go_wp2_with fail
                    go_meet
                    first
                    | exact ⟨_, _, rfl, rfl, two_below _ _ _, tb_first _ _ _ _ _ _ _, tb_second _ _ _ _ _ _ _, by omega, by omega, by omega⟩
                    | exact ⟨_, _, rfl, rfl, two_below _ _ _, tb_second _ _ _ _ _ _ _, tb_first _ _ _ _ _ _ _, by omega, by omega, by omega⟩
                case rest =>
                  obtain ⟨p, q, rfl, rfl, hb6, tp, tq, hpq, hp0, hq0⟩ := hcut
                  rename World => w6
                  have H6 := Lib.hid (And.intro hb6 (And.intro tp (And.intro tq hpq)))
                  clear hb6 tp tq hpq p0 p1 p2 p3 p4 q0 q1 q2 q3 q4 hW
                  rcases HCS.out with ⟨ga, eA, hly⟩ | ⟨ga, gb, lz, eB, hlx, hly⟩
                  · subst hly
                    obtain ⟨g1, ea1, ht1⟩ := own_tok H5.out.2.1 ga
                    rw [eA] at ht1
                    subst ea1
                    obtain ⟨r0, r1, r2, r3, r4⟩ := (ht1.later HBR.out).later H6.out.1
                    simp only at r0 r1 r2 r3 r4
                    rw [HBT.out] at r1
                    have gan : decide (j < A.length) = true := decide_eq_true ga
                    have gaz : (j : Int) < (A.length : Int) := by omega
                    have he := fun W => tok_neq kd bt ff xx ly W
                    obtain ⟨x0, x1, x2, x3, x4, xz⟩ := H6.out.2.1
                    obtain ⟨y0, y1, y2, y3, y4, yz⟩ := H6.out.2.2.1
                    clear eA xz yz
                    go_upto_region 31 with fail
                    go_quiet (fail)
                    have HE := Lib.hid (onB' HBR.out (H6.out.1.trans ⟨rfl, rfl, rfl, Nat.le_refl _, fun _ _ => rfl⟩ : Below wr.heap.size wr (w6.drewN nq)))
                    go_wp2_with fail
                    exact ⟨⟨j + 1, by omega, by go_num, HE.out⟩, by simp [RowKit.intOf]; omega⟩
                  · obtain ⟨g2, ea2, ht2⟩ := own_tok H5.out.2.2.1 gb
                    rw [eB] at ht2
                    subst ea2
                    obtain ⟨r0, r1, r2, r3, r4⟩ := (ht2.later HBR.out).later H6.out.1
                    simp only at r0 r1 r2 r3 r4
                    rw [HBT.out] at r1
                    have gan : decide (j < A.length) = false := decide_eq_false (by omega)
                    have hbz : 0 ≤ lz ∧ lz ≤ 1 + (t.size : Int) := by
                      have h1 : ∀ x, x ∈ B → 0 ≤ x.2 ∧ x.2 ≤ 1 + (t.size : Int) := HCD.out.2.2.2.2.2.2
                      have h2 := h1 _ (List.getElem_mem gb)
                      rw [eB] at h2
                      exact h2
                    have esb : IntKind.i64.wrap ((j : Int) - (A.length : Int)) = ((j - A.length : Nat) : Int) := by rw [IntKind.wrap_i64]; omega
                    have b1 : (0 : Int) ≤ ((j - A.length : Nat) : Int) := by omega
                    have b2 : ((j - A.length : Nat) : Int) < (B.length : Int) := by omega
                    have el1 : IntKind.i64.wrap (lz + ((L : Int) + 1)) = lx := by rw [IntKind.wrap_i64]; omega
                    have el2 : IntKind.i64.wrap (lx + 1) = ly := by rw [IntKind.wrap_i64]; omega
                    clear eB hlx hly hbz
                    generalize j - A.length = jb at *
                    go_upto_region 34 with fail
                    have hx7 : Below w6.heap.size w6 (w6.alloc (.cells #[.int .i64 kd, .string bt, .bool ff, .int .u64 xx, .int .i64 lz] 35)) := (Below.refl _ _).alloc (Nat.le_refl _) _
                    have tz := tb_new w6 kd bt ff xx lz
                    have tp := H6.out.2.1.later hx7
                    have tq := H6.out.2.2.1.later hx7
                    have hpq := H6.out.2.2.2
                    have hp6 : p < w6.heap.size := World.block_lt_of_cell? _ _ H6.out.2.1.c0
                    have hq6 : q < w6.heap.size := World.block_lt_of_cell? _ _ H6.out.2.2.1.c0
                    have H7 := Lib.hid (H6.out.1.trans (hx7.mono H6.out.1.size))
                    generalize (w6.alloc (.cells #[.int .i64 kd, .string bt, .bool ff, .int .u64 xx, .int .i64 lz] 35)) = W7 at *
                    have hpz : p ≠ w6.heap.size := by omega
                    have hqz : q ≠ w6.heap.size := by omega
                    generalize w6.heap.size = z at *
                    have HT := Lib.hid (And.intro tp (And.intro tq tz))
                    obtain ⟨x0, x1, x2, x3, x4, xz⟩ := tp
                    obtain ⟨y0, y1, y2, y3, y4, yz⟩ := tq
                    obtain ⟨z0, z1, z2, z3, z4, zz⟩ := tz
                    clear hx7 r0 r1 r2 r3 r4 hp6 hq6 HCS
                    go_upto_region 36 with fail
                    have hp4 := xz 4
                    have hq4 := yz 4
                    clear xz yz zz
                    have tp8 := ((HT.out.1.line (l := lz)).other (Ne.symm hpq) (.int .i64 lz)).drew
                    have tq8 := ((HT.out.2.1.other hpq (.int .i64 lz)).line (l := lz)).drew
                    have tz8 := ((HT.out.2.2.other hpz (.int .i64 lz)).other hqz (.int .i64 lz)).drew
                    have H8 := Lib.hid (And.intro tp8 (And.intro tq8 (And.intro tz8 ((H7.out.setCell (p := ⟨p, 4, none⟩) hp0 (.int .i64 lz)).setCell (p := ⟨q, 4, none⟩) hq0 (.int .i64 lz)).drew)))
                    clear tp8 tq8 tz8
                    go_region_held3 (fun w' => w'.cell? ⟨z, 4, none⟩ = some (.int .i64 lz)) (go_keep) (fail)
                    clear x0 x1 x2 x3 x4 y0 y1 y2 y3 y4 z0 z1 z2 z3 z4 hp4 hq4
                    rename_i hHeld9
                    clear hHeld9
                    generalize ((W7.setCell ⟨p, 4, none⟩ (.int .i64 lz)).setCell ⟨q, 4, none⟩ (.int .i64 lz)).drew = W8 at *
                    obtain ⟨x0, x1, x2, x3, x4, -⟩ := H8.out.1
                    obtain ⟨y0, y1, y2, y3, y4, -⟩ := H8.out.2.1
                    obtain ⟨z0, z1, z2, z3, z4, -⟩ := H8.out.2.2.1
                    have he := fun W => tok_neq kd bt ff xx lz W
                    go_wp2_with fail
                    exact ⟨⟨j + 1, by omega, by go_num, onB' HBR.out H8.out.2.2.2⟩, by simp [RowKit.intOf]; omega⟩
              · obtain rfl : j = n := by omega
                go_wp2_with fail
                go_ret
                exact ⟨rfl, onB' H5.out.1 HBR.out⟩

end Go.Proofs.YtkeeglpbhjnmdaaDoor
