/- Texts and numbers, there and back: of digits alone. -/
import Derived.Test.YtkeeglpbhjnmdaaDoorBackU
import Derived.Lib.ParseIntBCases
import Derived.Lib.ParseIntBTie
namespace Go.Proofs.YtkeeglpbhjnmdaaDoor

/-! ### Hexadecimal -/

theorem hex_digit (d : Nat) (h : d < 16) : isHex (hdB d) = true ∧ hexV (hdB d) = d := by
  have h : d = 0 ∨ d = 1 ∨ d = 2 ∨ d = 3 ∨ d = 4 ∨ d = 5 ∨ d = 6 ∨ d = 7 ∨ d = 8 ∨ d = 9 ∨ d = 10 ∨ d = 11 ∨ d = 12 ∨ d = 13 ∨ d = 14 ∨ d = 15 := by omega
  rcases h with h | h | h | h | h | h | h | h | h | h | h | h | h | h | h | h <;> subst h <;> decide

theorem digit_hex : ∀ c : UInt8, isHex c = true → hexV c < 16 ∧ hdB (hexV c) = c := by
  have h : ∀ n : Fin 256, isHex (UInt8.ofNat n.val) = true → hexV (UInt8.ofNat n.val) < 16 ∧ hdB (hexV (UInt8.ofNat n.val)) = UInt8.ofNat n.val := by decide +kernel
  intro c hc
  have e : UInt8.ofNat c.toNat = c := by simp
  have := h ⟨c.toNat, c.toNat_lt⟩
  simp only [e] at this
  exact this hc

theorem hexK_succ (u k : Nat) : hexK u (k + 1) = hdB (u / 16 ^ (k + 1) % 16) :: hexK u k := by
  unfold hexK
  rw [List.range_succ_eq_map, List.map_cons, List.map_map]
  simp only [Nat.sub_zero]
  congr 1
  apply List.map_congr_left
  intro j _
  simp only [Function.comp]
  rw [show k + 1 - (j + 1) = k - j by omega]

theorem hexK_all (u : Nat) : ∀ k, ∀ c ∈ hexK u k, isHex c = true := by
  intro k c hc
  unfold hexK at hc
  obtain ⟨j, _, rfl⟩ := List.mem_map.1 hc
  exact (hex_digit _ (Nat.mod_lt _ (by decide))).1

theorem hexN_hexK (u : Nat) : ∀ k acc, hexN acc (hexK u k) = acc * 16 ^ (k + 1) + u % 16 ^ (k + 1) := by
  intro k
  induction k with
  | zero =>
    intro acc
    simp only [hexK, List.range_succ, List.range_zero, List.nil_append, List.map_cons, List.map_nil, hexN]
    rw [(hex_digit _ (Nat.mod_lt _ (by decide))).2]
    simp
  | succ k ih =>
    intro acc
    rw [hexK_succ, hexN, ih, (hex_digit _ (Nat.mod_lt _ (by decide))).2]
    have e : u % 16 ^ (k + 1 + 1) = 16 ^ (k + 1) * (u / 16 ^ (k + 1) % 16) + u % 16 ^ (k + 1) := by
      rw [Nat.pow_succ 16 (k + 1), Nat.mod_mul, Nat.add_comm]
    rw [e, Nat.pow_succ 16 (k + 1), Nat.add_mul, Nat.mul_comm (16 ^ (k + 1)) (u / 16 ^ (k + 1) % 16), Nat.mul_assoc, Nat.mul_comm 16 (16 ^ (k + 1)), Nat.add_assoc]

theorem hexN_split : ∀ (l : List UInt8) (acc : Nat), (∀ c ∈ l, isHex c = true) → ∃ v, hexN acc l = acc * 16 ^ l.length + v ∧ v < 16 ^ l.length
  | [], acc, _ => ⟨0, by simp [hexN], by simp⟩
  | c :: r, acc, h => by
    obtain ⟨v, h1, h2⟩ := hexN_split r (acc * 16 + hexV c) (fun x hx => h x (List.mem_cons_of_mem _ hx))
    have hc := (digit_hex c (h c (List.mem_cons_self ..))).1
    refine ⟨hexV c * 16 ^ r.length + v, ?_, ?_⟩
    · rw [hexN, h1, List.length_cons, Nat.pow_succ, Nat.add_mul, Nat.mul_assoc, Nat.mul_comm 16 (16 ^ r.length), Nat.add_assoc]
    · rw [List.length_cons, Nat.pow_succ]
      have : hexV c * 16 ^ r.length ≤ 15 * 16 ^ r.length := Nat.mul_le_mul_right _ (by omega)
      omega

theorem hexK_hexN : ∀ (l : List UInt8) (k acc : Nat), l.length = k + 1 → (∀ c ∈ l, isHex c = true) → hexK (hexN acc l) k = l
  | [], k, acc, h, _ => by simp at h
  | c :: r, 0, acc, h, hall => by
    have hr : r = [] := by simpa using h
    subst hr
    obtain ⟨h1, h2⟩ := digit_hex c (hall c (List.mem_cons_self ..))
    simp only [hexK, hexN, List.range_succ, List.range_zero, List.nil_append, List.map_cons, List.map_nil]
    simp only [Nat.sub_zero, Nat.pow_zero, Nat.div_one]
    rw [show (acc * 16 + hexV c) % 16 = hexV c by omega, h2]
  | c :: r, k + 1, acc, h, hall => by
    have hr : r.length = k + 1 := by simpa using h
    obtain ⟨h1, h2⟩ := digit_hex c (hall c (List.mem_cons_self ..))
    have ih := hexK_hexN r k (acc * 16 + hexV c) hr (fun x hx => hall x (List.mem_cons_of_mem _ hx))
    obtain ⟨v, e1, e2⟩ := hexN_split r (acc * 16 + hexV c) (fun x hx => hall x (List.mem_cons_of_mem _ hx))
    rw [hexK_succ]
    show hdB (hexN (acc * 16 + hexV c) r / 16 ^ (k + 1) % 16) :: hexK (hexN (acc * 16 + hexV c) r) k = c :: r
    rw [ih, e1, hr]
    rw [hr] at e2
    congr 1
    rw [Nat.mul_comm, Nat.mul_add_div (Nat.pow_pos (by decide)), Nat.div_eq_of_lt e2, Nat.add_zero, show (acc * 16 + hexV c) % 16 = hexV c by omega, h2]

/-- Noughts ahead fill a number's digits up. -/
theorem hexK_pad (u k : Nat) (h : u < 16 ^ (k + 1)) : ∀ n, hexK u (k + n) = List.replicate n 48 ++ hexK u k := by
  intro n
  induction n with
  | zero => simp
  | succ n ih =>
    rw [show k + (n + 1) = k + n + 1 by omega, hexK_succ, ih, List.replicate_succ, List.cons_append]
    congr 1
    have : u / 16 ^ (k + n + 1) = 0 := Nat.div_eq_of_lt (Nat.lt_of_lt_of_le h (Nat.pow_le_pow_right (by decide) (by omega)))
    rw [this]; rfl

theorem hexL_bound (u : Nat) : u < 16 ^ (u.log2 / 4 + 1) := by
  have h := Nat.lt_log2_self (n := u)
  refine Nat.lt_of_lt_of_le h ?_
  rw [show (16 : Nat) = 2 ^ 4 from rfl, ← Nat.pow_mul]
  exact Nat.pow_le_pow_right (by decide) (by omega)

theorem fltL_eq (b : Nat) (hb : b < 18446744073709551616) : fltL b = 48 :: 102 :: hexK b 15 := by
  unfold fltL
  have hl := (hexL_length b hb).1
  have e : (hexL b).length = b.log2 / 4 + 1 := hexK_length _ _
  have hp := hexK_pad b (b.log2 / 4) (hexL_bound b) (15 - b.log2 / 4)
  rw [show b.log2 / 4 + (15 - b.log2 / 4) = 15 by omega] at hp
  rw [hp, e, show 16 - (b.log2 / 4 + 1) = 15 - b.log2 / 4 by omega]
  rfl

theorem hex_there (b : Nat) (hb : b < 18446744073709551616) : hexN 0 (hexK b 15) = b := by
  rw [hexN_hexK, Nat.zero_mul, Nat.zero_add]
  exact Nat.mod_eq_of_lt hb

theorem hex_back (l : List UInt8) (hl : l.length = 16) (hall : ∀ c ∈ l, isHex c = true) : hexN 0 l < 18446744073709551616 ∧ fltL (hexN 0 l) = 48 :: 102 :: l := by
  obtain ⟨v, e1, e2⟩ := hexN_split l 0 hall
  rw [hl] at e1 e2
  have hlt : hexN 0 l < 18446744073709551616 := by rw [e1, Nat.zero_mul, Nat.zero_add]; exact e2
  exact ⟨hlt, by rw [fltL_eq _ hlt, hexK_hexN l 15 0 hl hall]⟩

end Go.Proofs.YtkeeglpbhjnmdaaDoor
