/- NumBack: what is printed is parsed as it was; what is parsed is printed as it was: the walk. -/
import Derived.Test.YtkipioojdlkbcaaDoorBackV
import Derived.Lib.ItoaLen
namespace Go.Proofs.YtkipioojdlkbcaaDoor
open Go.RowKit
open Go.Lib (NumEnd parseIntB itoa)

/-- A number's text. -/
def printL (f : Bool) (x : Int) : List UInt8 := if f = true then fltL x.toNat else itoa (wrap64 x)

theorem print_any (f : Bool) (x : Int) (h0 : 0 ≤ x) (h1 : x < 18446744073709551616) (w : World) (hE : Env w) :
    Calls Tryd.prog 17 #[.agg #[.bool f, .int .u64 x]] w fun e w' => e = .returned (.string ⟨(printL f x).toArray⟩) ∧ Below w.heap.size w w' := by
  cases f with
  | false => exact print_int x w hE.1
  | true =>
    obtain ⟨b, rfl⟩ := Int.eq_ofNat_of_zero_le h0
    exact print_float b (by omega) w hE.2

theorem U_range (v : Int) : 0 ≤ U v ∧ U v < 18446744073709551616 := by rw [U_eq]; omega

theorem print_len (f : Bool) (x : Int) (h0 : 0 ≤ x) (h1 : x < 18446744073709551616) : (printL f x).length ≤ 1000 := by
  cases f with
  | false =>
    have h := wrap64_range x
    have := Lib.itoa_length_le (wrap64 x) h.1 h.2
    show (itoa (wrap64 x)).length ≤ 1000
    omega
  | true =>
    show (fltL x.toNat).length ≤ 1000
    rw [fltL_eq _ (by omega)]
    simp only [List.length_cons, hexK_length]
    omega

/-- What is printed is parsed as it was. -/
theorem there (f : Bool) (x : Int) (h0 : 0 ≤ x) (h1 : x < 18446744073709551616) : parseL (printL f x) = (f, x, 0) := by
  cases f with
  | false =>
    have h := wrap64_range x
    obtain ⟨i1, i2, i3⟩ := int_there (wrap64 x) h.1 h.2
    show parseL (itoa (wrap64 x)) = _
    unfold parseL
    rw [if_neg (by rw [i3]; decide), if_pos i1, i2]
    show (false, U (wrap64 x), (0 : Int)) = _
    rw [U_wrap64, U_eq, Int.emod_eq_of_lt h0 h1]
  | true =>
    show parseL (fltL x.toNat) = _
    rw [fltL_eq _ (by omega)]
    unfold parseL
    rw [if_pos (by simp [Lib.hasPrefix])]
    show (if (hexK x.toNat 15).length = 16 ∧ ∀ c ∈ hexK x.toNat 15, isHex c = true then (true, ((hexN 0 (hexK x.toNat 15) : Nat) : Int), (0 : Int)) else (false, 0, 3)) = _
    rw [if_pos ⟨by rw [hexK_length], hexK_all _ _⟩, hex_there _ (by omega), Int.toNat_of_nonneg h0]

/-- What is parsed is printed as it was. -/
theorem back (l : List UInt8) (b : Bool) (y : Int) (h : parseL l = (b, y, 0)) : 0 ≤ y ∧ y < 18446744073709551616 ∧ printL b y = l := by
  unfold parseL at h
  split at h
  · rename_i hp
    split at h
    · rename_i hx
      simp only [Prod.mk.injEq] at h
      obtain ⟨rfl, rfl, _⟩ := h
      obtain ⟨e1, e2⟩ := hex_back (l.drop 2) hx.1 hx.2
      refine ⟨by omega, by omega, ?_⟩
      show fltL ((hexN 0 (l.drop 2) : Nat) : Int).toNat = l
      rw [Int.toNat_natCast, e2]
      have hp' : List.isPrefixOf [48, 102] l = true := hp
      obtain ⟨t, ht⟩ := List.isPrefixOf_iff_prefix.1 hp'
      rw [← ht]; rfl
    · simp at h
  · split at h
    · rename_i hf
      cases hv : parseIntB 64 l with
      | ok v =>
        rw [hv] at h
        simp only [Prod.mk.injEq] at h
        obtain ⟨rfl, rfl, _⟩ := h
        obtain ⟨b1, b2⟩ := Lib.parseIntB_bounds hv
        refine ⟨(U_range v).1, (U_range v).2, ?_⟩
        show itoa (wrap64 (U v)) = l
        rw [wrap64_U v ⟨by simpa using b1, by have := b2; simp at this; omega⟩]
        exact int_back l v hf hv
      | range => rw [hv] at h; simp at h
      | _ => rw [hv] at h; simp at h
    · simp at h

theorem walk_long (f : Bool) (x : Int) (s : ByteArray) (W : World) (hl : 1000 < s.size) (hE : Env W) :
    Calls Tryd.prog 4 #[.agg #[.bool f, .int .u64 x], .string s] W fun e W' => e = .returned (.bool true) ∧ Below W.heap.size W W' := by
  have hl' : 1000 < (s.size : Int) := by omega
  have hA := fun w (hE : Env w) => awake_any w hE
  go_enter Tryd.func4, Tryd.ntmps4
  go_wp2_with fail
  refine (hA _ (hE.alloc _)).mono ?_
  rintro e w1 ⟨rfl, hb⟩
  have hB := stepB ((Below.refl W.heap.size W).alloc (Nat.le_refl _) (Obj.cells #[Value.bool f, Value.int IntKind.u64 x] 24)) hb
  clear hb hA hE
  go_wp2_with fail
  go_ret
  exact ⟨rfl, hB⟩

set_option maxHeartbeats 1000000 in
theorem walk_short (f : Bool) (x : Int) (s : ByteArray) (W : World) (h0 : 0 ≤ x) (h1 : x < 18446744073709551616) (hl : s.size ≤ 1000) (hE : Env W) (hEE : EE W) :
    Calls Tryd.prog 4 #[.agg #[.bool f, .int .u64 x], .string s] W fun e W' => e = .returned (.bool true) ∧ Below W.heap.size W W' := by
  have hl' : (s.size : Int) ≤ 1000 := by omega
  obtain ⟨b, y, e0, hr⟩ : ∃ b y e0, parseL s.data.toList = (b, y, e0) := ⟨_, _, _, rfl⟩
  obtain ⟨t, ht⟩ : ∃ t : ByteArray, t = ⟨(printL f x).toArray⟩ := ⟨_, rfl⟩
  have htl : t.data.toList = printL f x := by rw [ht]
  have hts : t.size ≤ 1000 := by rw [Lib.size_eq, htl]; exact print_len f x h0 h1
  have hA := Lib.hid (fun w (hE : Env w) => awake_any w hE)
  have hP := Lib.hid (fun w (hE : Env w) => print_any f x h0 h1 w hE)
  rw [← ht] at hP
  have hQ := Lib.hid (fun w (hE : EE w) => parse_any t hts w hE f x 0 (by rw [htl]; exact there f x h0 h1))
  have hR := Lib.hid (fun w (hE : EE w) => parse_any s hl w hE b y e0 hr)
  have hback := Lib.hid (back s.data.toList b y)
  rw [hr] at hback
  clear hts htl ht hl hr
  go_enter Tryd.func4, Tryd.ntmps4
  go_wp2_with fail
  have hB := (Below.refl W.heap.size W).alloc (Nat.le_refl _) (Obj.cells #[Value.bool f, Value.int IntKind.u64 x] 24)
  have n0 : (W.alloc (Obj.cells #[Value.bool f, Value.int IntKind.u64 x] 24)).cell? ⟨W.heap.size, 0, none⟩ = some (.bool f) := by simp
  have n1 : (W.alloc (Obj.cells #[Value.bool f, Value.int IntKind.u64 x] 24)).cell? ⟨W.heap.size, 1, none⟩ = some (.int .u64 x) := by simp
  replace hE := hE.alloc (Obj.cells #[Value.bool f, Value.int IntKind.u64 x] 24)
  replace hEE := hEE.below ((Below.refl _ _).alloc (Nat.le_refl _) (Obj.cells #[Value.bool f, Value.int IntKind.u64 x] 24))
  refine (hA.out _ hE).mono ?_
  rintro e w1 ⟨rfl, hb⟩
  replace hE := hE.below hb
  replace hEE := hEE.below hb
  replace hB := stepB hB hb
  replace n0 := cell_later hb n0
  replace n1 := cell_later hb n1
  clear hb hA
  go_wp2_with fail
  refine (hP.out _ hE).mono ?_
  rintro e w2 ⟨rfl, hb⟩
  replace hE := hE.below hb
  replace hEE := hEE.below hb
  replace hB := stepB hB hb
  replace n0 := cell_later hb n0
  replace n1 := cell_later hb n1
  clear hb hP
  go_wp2_with fail
  refine (hQ.out _ hEE).mono ?_
  rintro e w3 ⟨rfl, hb⟩
  replace hE := hE.below hb
  replace hEE := hEE.below hb
  replace hB := stepB hB hb
  replace n0 := cell_later hb n0
  replace n1 := cell_later hb n1
  clear hb hQ
  have ln := World.block_lt_of_cell? _ _ n0
  go_wp2_with fail
  clear ln
  have hb := (Below.refl w3.heap.size w3).alloc (Nat.le_refl _) (Obj.cells #[Value.bool f, Value.int IntKind.u64 x] 24)
  have m0 : (w3.alloc (Obj.cells #[Value.bool f, Value.int IntKind.u64 x] 24)).cell? ⟨w3.heap.size, 0, none⟩ = some (.bool f) := by simp
  have m1 : (w3.alloc (Obj.cells #[Value.bool f, Value.int IntKind.u64 x] 24)).cell? ⟨w3.heap.size, 1, none⟩ = some (.int .u64 x) := by simp
  replace hE := hE.below hb
  replace hEE := hEE.below hb
  replace hB := stepB hB hb
  replace n0 := cell_later hb n0
  replace n1 := cell_later hb n1
  clear hb
  refine (hR.out _ hEE).mono ?_
  rintro e w4 ⟨rfl, hb⟩
  replace hE := hE.below hb
  replace hB := stepB hB hb
  replace n0 := cell_later hb n0
  replace n1 := cell_later hb n1
  replace m0 := cell_later hb m0
  replace m1 := cell_later hb m1
  clear hb hR hEE
  have ln := World.block_lt_of_cell? _ _ n0
  have lm := World.block_lt_of_cell? _ _ m0
  by_cases h3 : e0 = 0
  · subst h3
    obtain ⟨y0, y1, hs⟩ := hback.out rfl
    have hP := Lib.hid (fun w (hE : Env w) => print_any b y y0 y1 w hE)
    have es : (⟨(printL b y).toArray⟩ : ByteArray) = s := by
      rcases s with ⟨⟨l⟩⟩
      have hs' : printL b y = l := hs
      rw [hs']
    rw [es] at hP
    clear hback hs es y0 y1
    go_wp2_with fail
    clear ln lm
    have hb := (Below.refl w4.heap.size w4).alloc (Nat.le_refl _) (Obj.cells #[Value.bool b, Value.int IntKind.u64 y] 24)
    replace hE := hE.below hb
    replace hB := stepB hB hb
    clear hb
    refine (hP.out _ hE).mono ?_
    rintro e w5 ⟨rfl, hb⟩
    replace hB := stepB hB hb
    clear hb hP hE n0 n1 m0 m1
    go_wp2_with fail
    go_ret
    exact ⟨by simp, hB⟩
  · have h3' : (e0 != 0) = true := bne_iff_ne.2 h3
    clear hback
    go_wp2_with fail
    go_ret
    exact ⟨by simp, hB.alloc hB.size _⟩

end Go.Proofs.YtkipioojdlkbcaaDoor
