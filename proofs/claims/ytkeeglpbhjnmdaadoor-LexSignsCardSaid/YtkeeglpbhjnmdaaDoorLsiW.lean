/- LexSigns: its walk. -/
import Derived.Test.YtkeeglpbhjnmdaaDoorLteW
import Derived.Deep.MidRow
namespace Go.Proofs.YtkeeglpbhjnmdaaDoor
open Go.RowKit Go.Lib

def allB : List ByteArray := [⟨#[43]⟩, ⟨#[45]⟩, ⟨#[42]⟩, ⟨#[47]⟩, ⟨#[37]⟩, ⟨#[61, 61]⟩, ⟨#[60]⟩, ⟨#[43, 46]⟩, ⟨#[45, 46]⟩, ⟨#[42, 46]⟩, ⟨#[47, 46]⟩, ⟨#[61, 61, 46]⟩, ⟨#[60, 46]⟩, ⟨#[40]⟩, ⟨#[41]⟩, ⟨#[123]⟩, ⟨#[125]⟩, ⟨#[59]⟩, ⟨#[61]⟩, ⟨#[45, 62]⟩]

def allV : List Value := [.string ⟨#[43]⟩, .string ⟨#[45]⟩, .string ⟨#[42]⟩, .string ⟨#[47]⟩, .string ⟨#[37]⟩, .string ⟨#[61, 61]⟩, .string ⟨#[60]⟩, .string ⟨#[43, 46]⟩, .string ⟨#[45, 46]⟩, .string ⟨#[42, 46]⟩, .string ⟨#[47, 46]⟩, .string ⟨#[61, 61, 46]⟩, .string ⟨#[60, 46]⟩, .string ⟨#[40]⟩, .string ⟨#[41]⟩, .string ⟨#[123]⟩, .string ⟨#[125]⟩, .string ⟨#[59]⟩, .string ⟨#[61]⟩, .string ⟨#[45, 62]⟩]
theorem all_there (w : World) : (w.alloc (.cells #[.string ⟨#[]⟩, .string ⟨#[]⟩, .string ⟨#[]⟩, .string ⟨#[]⟩, .string ⟨#[]⟩, .string ⟨#[]⟩, .string ⟨#[]⟩, .string ⟨#[]⟩, .string ⟨#[]⟩, .string ⟨#[]⟩, .string ⟨#[]⟩, .string ⟨#[]⟩, .string ⟨#[]⟩, .string ⟨#[]⟩, .string ⟨#[]⟩, .string ⟨#[]⟩, .string ⟨#[]⟩, .string ⟨#[]⟩, .string ⟨#[]⟩, .string ⟨#[]⟩] 40)).there w.heap.size 0 allV.toArray.size := by
  intro j hj
  have hj' : j < 20 := hj
  obtain rfl | rfl | rfl | rfl | rfl | rfl | rfl | rfl | rfl | rfl | rfl | rfl | rfl | rfl | rfl | rfl | rfl | rfl | rfl | rfl : j = 0 ∨ j = 1 ∨ j = 2 ∨ j = 3 ∨ j = 4 ∨ j = 5 ∨ j = 6 ∨ j = 7 ∨ j = 8 ∨ j = 9 ∨ j = 10 ∨ j = 11 ∨ j = 12 ∨ j = 13 ∨ j = 14 ∨ j = 15 ∨ j = 16 ∨ j = 17 ∨ j = 18 ∨ j = 19 := by omega
  all_goals simp [go_sem]

theorem bel_setCells {B b : Nat} {a : World} (hb : B ≤ b) : ∀ (vs : List Value) (o : Nat) (w : World), Below B a w → Below B a (w.setCells b o vs)
  | [], _, _, h => h
  | v :: vs, o, _, h => bel_setCells hb vs (o + 1) _ (h.setCell (p := ⟨b, o, none⟩) hb v)
theorem signs_first : ∀ x, x ∈ signsB → ∃ c r, x.1.data.toList = c :: r ∧ c ≠ 10 ∧ ¬ (c = 9 ∨ c = 13 ∨ c = 32) ∧ hasPrefix x.1.data.toList [45, 45] = false := by
  intro x hx
  simp only [signsB, List.mem_cons, List.not_mem_nil, or_false] at hx
  rcases hx with rfl | rfl | rfl | rfl | rfl | rfl | rfl | rfl | rfl | rfl | rfl | rfl | rfl | rfl | rfl | rfl | rfl | rfl | rfl | rfl | rfl
  all_goals exact ⟨_, _, rfl, by decide, by decide, by decide⟩
theorem sign_own {x : ByteArray × Int} (h : x ∈ signsB) : Own ⟨x.2, x.1.data.toList, false, 0⟩ := by
  obtain ⟨c, r, e, h1, h2, h3⟩ := signs_first x h
  refine ⟨c, r, e, h1, h2, h3, ?_⟩
  show readL x.1.data.toList = _
  unfold readL
  rw [signs_own x h]
theorem all_sign : ∀ i : Fin 20, ∃ k, (allB[i.val]'(show i.val < 20 from i.isLt), k) ∈ signsB := by
  intro ⟨i, hi⟩
  obtain rfl | rfl | rfl | rfl | rfl | rfl | rfl | rfl | rfl | rfl | rfl | rfl | rfl | rfl | rfl | rfl | rfl | rfl | rfl | rfl : i = 0 ∨ i = 1 ∨ i = 2 ∨ i = 3 ∨ i = 4 ∨ i = 5 ∨ i = 6 ∨ i = 7 ∨ i = 8 ∨ i = 9 ∨ i = 10 ∨ i = 11 ∨ i = 12 ∨ i = 13 ∨ i = 14 ∨ i = 15 ∨ i = 16 ∨ i = 17 ∨ i = 18 ∨ i = 19 := by omega
  all_goals
    simp only [allB, signsB, List.getElem_cons_zero, List.getElem_cons_succ, List.mem_cons, Prod.mk.injEq, List.not_mem_nil, or_false]
    first
    | exact ⟨4, by decide⟩
    | exact ⟨6, by decide⟩
theorem all_val (i : Nat) (hi : i < 20) : allV[i]? = some (.string (allB[i]'hi)) := by
  obtain rfl | rfl | rfl | rfl | rfl | rfl | rfl | rfl | rfl | rfl | rfl | rfl | rfl | rfl | rfl | rfl | rfl | rfl | rfl | rfl : i = 0 ∨ i = 1 ∨ i = 2 ∨ i = 3 ∨ i = 4 ∨ i = 5 ∨ i = 6 ∨ i = 7 ∨ i = 8 ∨ i = 9 ∨ i = 10 ∨ i = 11 ∨ i = 12 ∨ i = 13 ∨ i = 14 ∨ i = 15 ∨ i = 16 ∨ i = 17 ∨ i = 18 ∨ i = 19 := by omega
  all_goals rfl
theorem all_size (i : Nat) (hi : i < 20) : (allB[i]'hi).size ≤ 3 := by
  have h : ∀ x, x ∈ allB → x.size ≤ 3 := by decide
  exact h _ (List.getElem_mem _)
theorem lexL_two {a b : Tk} (ha : Own a) (hb : Own b) : lexL (a.t ++ 32 :: b.t) = .good [(a, 1), (b, 1)] := by
  have hpos : ∀ z : Tk, Own z → 1 ≤ z.t.length := fun z hz => by
    obtain ⟨c, r, ht, _⟩ := hz
    rw [ht]
    simp
  have p1 := hpos a ha
  have p3 := hpos b hb
  unfold lexL
  rw [fuel _ ((a.t ++ 32 :: b.t).length + 3 + 1) _ _ _ (by omega) (by omega)]
  rw [take_own ha _ (Or.inl rfl) _ _ _ (by simp), skip_32, last_own hb _ _ _ (by simp)]
  rfl

set_option maxHeartbeats 16000000 in
set_option maxRecDepth 100000 in
theorem signs_walk (a : Nat) (ha : a ≤ 255) (b : Nat) (hb : b ≤ 255) (w : World) (hS : SG w) (hE : EE w) :
    Calls Tryd.prog 8 #[.int .u8 a, .int .u8 b] w fun e w' => e = .returned (.bool true) ∧ Below w.heap.size w w' := by
  have HSE := Lib.hid (And.intro hS hE)
  clear hS hE
  go_enter Tryd.func8, Tryd.ntmps8
  go_wp2_with fail
  refine (lawake_any w HSE.out.1 HSE.out.2).mono ?_
  rintro e w1 ⟨rfl, hb⟩
  have H1 := Lib.hid (And.intro hb (And.intro (HSE.out.1.below hb) (HSE.out.2.below hb)))
  clear hb HSE
  have ht := Lib.hid (all_there w1)
  go_upto_region 4 with (refine wpList_store_mid rfl 40 (.tmp 5) (.tmp 19) rfl w1.heap.size 0 allV.toArray rfl rfl ht.out (by kernel_rfl) (by kernel_rfl) ?_)
  have hb4 : Below w1.heap.size w1 ((w1.alloc (.cells #[.string ⟨#[]⟩, .string ⟨#[]⟩, .string ⟨#[]⟩, .string ⟨#[]⟩, .string ⟨#[]⟩, .string ⟨#[]⟩, .string ⟨#[]⟩, .string ⟨#[]⟩, .string ⟨#[]⟩, .string ⟨#[]⟩, .string ⟨#[]⟩, .string ⟨#[]⟩, .string ⟨#[]⟩, .string ⟨#[]⟩, .string ⟨#[]⟩, .string ⟨#[]⟩, .string ⟨#[]⟩, .string ⟨#[]⟩, .string ⟨#[]⟩, .string ⟨#[]⟩] 40)).setCells w1.heap.size 0 allV.toArray.toList) := bel_setCells (Nat.le_refl _) _ _ _ ((Below.refl _ _).alloc (Nat.le_refl _) _)
  have hr4 := World.rangeAt_setCells_same _ _ 0 allV ht.out
  have hr5 : ((w1.alloc (.cells #[.string ⟨#[]⟩, .string ⟨#[]⟩, .string ⟨#[]⟩, .string ⟨#[]⟩, .string ⟨#[]⟩, .string ⟨#[]⟩, .string ⟨#[]⟩, .string ⟨#[]⟩, .string ⟨#[]⟩, .string ⟨#[]⟩, .string ⟨#[]⟩, .string ⟨#[]⟩, .string ⟨#[]⟩, .string ⟨#[]⟩, .string ⟨#[]⟩, .string ⟨#[]⟩, .string ⟨#[]⟩, .string ⟨#[]⟩, .string ⟨#[]⟩, .string ⟨#[]⟩] 40)).setCells w1.heap.size 0 allV.toArray.toList).rangeAt w1.heap.size 0 allV := hr4
  have HR := Lib.hid (And.intro hb4 hr5)
  clear hb4 hr4 hr5 ht
  generalize ((w1.alloc (.cells #[.string ⟨#[]⟩, .string ⟨#[]⟩, .string ⟨#[]⟩, .string ⟨#[]⟩, .string ⟨#[]⟩, .string ⟨#[]⟩, .string ⟨#[]⟩, .string ⟨#[]⟩, .string ⟨#[]⟩, .string ⟨#[]⟩, .string ⟨#[]⟩, .string ⟨#[]⟩, .string ⟨#[]⟩, .string ⟨#[]⟩, .string ⟨#[]⟩, .string ⟨#[]⟩, .string ⟨#[]⟩, .string ⟨#[]⟩, .string ⟨#[]⟩, .string ⟨#[]⟩] 40)).setCells w1.heap.size 0 allV.toArray.toList) = W4 at *
  have hS4 : SG W4 ∧ EE W4 ∧ Below w.heap.size w W4 := ⟨H1.out.2.1.below HR.out.1, H1.out.2.2.below HR.out.1, onB' H1.out.1 HR.out.1⟩
  generalize w1.heap.size = p at *
  obtain ⟨i, hi, hi20⟩ : ∃ i : Nat, (a : Int).tmod 20 = (i : Int) ∧ i < 20 := ⟨a % 20, by rw [Int.tmod_eq_emod_of_nonneg (by omega)]; omega, by omega⟩
  obtain ⟨j, hj, hj20⟩ : ∃ j : Nat, (b : Int).tmod 20 = (j : Int) ∧ j < 20 := ⟨b % 20, by rw [Int.tmod_eq_emod_of_nonneg (by omega)]; omega, by omega⟩
  obtain ⟨kx, hx⟩ := all_sign ⟨i, hi20⟩
  obtain ⟨ky, hy⟩ := all_sign ⟨j, hj20⟩
  simp only at hx hy
  have cx := HR.out.2 i _ (all_val i hi20)
  have cy := HR.out.2 j _ (all_val j hj20)
  have zx := all_size i hi20
  have zy := all_size j hj20
  generalize allB[i]'hi20 = x at *
  generalize allB[j]'hj20 = y at *
  have ox := sign_own hx
  have oy := sign_own hy
  have HOO := Lib.hid (And.intro ox oy)
  have HS4 := Lib.hid hS4
  simp only [Nat.zero_add] at cx cy
  have i1 : IntKind.u8.wrap (i : Int) = (i : Int) := by rw [IntKind.wrap_u8]; omega
  have j1 : IntKind.u8.wrap (j : Int) = (j : Int) := by rw [IntKind.wrap_u8]; omega
  have i2 : (0 : Int) ≤ (i : Int) := by omega
  have j2 : (0 : Int) ≤ (j : Int) := by omega
  have i3 : (i : Int) < 20 := by omega
  have j3 : (j : Int) < 20 := by omega
  clear ox oy hx hy hS4 HR H1
  go_quiet (fail)
  have hd5 : Below W4.heap.size W4 (W4.drewN nq) := ⟨rfl, rfl, rfl, Nat.le_refl _, fun _ _ => rfl⟩
  have HS5 := Lib.hid (And.intro (HS4.out.1.below hd5) (And.intro (HS4.out.2.1.below hd5) (onB' HS4.out.2.2 hd5)))
  have l1 : lexL (x ++ ⟨#[32]⟩ ++ y).data.toList = .good [(⟨kx, x.data.toList, false, 0⟩, 1), (⟨ky, y.data.toList, false, 0⟩, 1)] := by
    have e : (x ++ ⟨#[32]⟩ ++ y).data.toList = x.data.toList ++ 32 :: y.data.toList := by rw [cat_list, cat_list]; simp
    rw [e]
    exact lexL_two (a := ⟨kx, x.data.toList, false, 0⟩) (b := ⟨ky, y.data.toList, false, 0⟩) HOO.out.1 HOO.out.2
  have z1 : (x ++ ⟨#[32]⟩ ++ y).size ≤ 100000 := by rw [size_eq, cat_list, cat_list]; simp only [List.length_append]; rw [← size_eq x, ← size_eq y]; simp; omega
  have z2 : (x ++ y).size ≤ 100000 := by rw [size_eq, cat_list]; simp only [List.length_append]; rw [← size_eq x, ← size_eq y]; omega
  have HL1 := Lib.hid (fun W hS hE => lex_any (x ++ ⟨#[32]⟩ ++ y) z1 W hS hE)
  have HL2 := Lib.hid (fun W hS hE => lex_any (x ++ y) z2 W hS hE)
  have HL3 := Lib.hid (fun W => reflex_any (x ++ y) z2 W)
  have HLL := Lib.hid l1
  clear hd5 l1 z1 z2 hi hj cx cy i1 j1 i2 j2 i3 j3 HOO HS4
  generalize W4.drewN nq = W5 at *
  go_wp2_with fail
  refine (HL1.out _ HS5.out.1 HS5.out.2.1).mono ?_
  intro e w6 h6
  obtain ⟨T, a1, c1, er, line, rfl, hown, hb6, hv⟩ := h6.view
  rw [HLL.out] at hv
  rcases hv with ⟨q, rfl, rfl⟩ | ⟨q, -⟩
  rotate_left
  · cases q
  cases q
  have H6 := Lib.hid (And.intro (HS5.out.1.below hb6) (And.intro (HS5.out.2.1.below hb6) (And.intro (onB' HS5.out.2.2 hb6) hown)))
  clear h6 hown hb6 HL1 HLL HS5
  go_wp2_with fail
  refine (HL2.out _ H6.out.1 H6.out.2.1).mono ?_
  intro e w7 h7
  obtain ⟨T, a2, c2, er, line, rfl, hown2, hb7, hv⟩ := h7.view
  have H7 := Lib.hid (And.intro (onB' H6.out.2.2.1 hb7) (And.intro (own_below H6.out.2.2.2 hb7) hown2))
  have HV := Lib.hid hv
  clear h7 hown2 hb7 HL2 H6 hv
  go_wp2_with fail
  refine (HL3.out _).mono ?_
  intro e w8 h8
  obtain ⟨T2, a3, c3, er2, line2, rfl, hown3, hb8, hv2⟩ := h8.view
  obtain ⟨rfl, rfl, rfl⟩ := view_same HV.out hv2
  have HS := Lib.hid (fun W (hb : Below w8.heap.size w8 W) => same_any T2 a2 a3 c2 c3 _ _ W (own_below (own_below H7.out.2.2 hb8) hb) (own_below hown3 hb))
  have hrow := own_below H7.out.2.1 hb8
  obtain ⟨g1, ea1, ht1⟩ := own_tok hrow (j := 0) (by simp)
  obtain ⟨g2, ea2, ht2⟩ := own_tok hrow (j := 1) (by simp)
  subst ea1
  cases ea2
  have p1 := ht1.c1
  have q1 := ht2.c1
  have ebx : (⟨x.data.toList.toArray⟩ : ByteArray) = x := by cases x; simp
  have eby : (⟨y.data.toList.toArray⟩ : ByteArray) = y := by cases y; simp
  simp only [List.getElem_cons_zero, List.getElem_cons_succ, Nat.zero_mul, Nat.one_mul, Nat.zero_add, Nat.reduceAdd] at p1 q1
  rw [ebx] at p1
  rw [eby] at q1
  have H8 := Lib.hid (onB' H7.out.1 hb8)
  clear h8 hown3 hb8 hv2 HL3 HV H7 hrow ht1 ht2 ebx eby
  go_wp2_with fail
  refine (HS.out _ (Below.refl _ _)).mono ?_
  rintro e w9 ⟨rfl, hb9⟩
  have H9 := Lib.hid (onB' H8.out hb9)
  clear hb9
  go_wp2_with fail
  go_ret
  exact ⟨rfl, H9.out⟩

end Go.Proofs.YtkeeglpbhjnmdaaDoor
