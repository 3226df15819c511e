/- Numbers as they lie; digits: what the contracts of Parse lean on. -/
import Derived.Test.YtkeeglpbhjnmdaaDoorShelf
import Derived.Test.YtkeeglpbhjnmdaaDoorChecked
import Derived.WalkKit
import Derived.WalkSpells
import Derived.WalkLawsBesides
import Derived.Deep.RegionHeld3
import Derived.Deep.DeepCutAuto
import Derived.KernelRfl
import Derived.Lib.Hide
import Derived.Lib.ItoaWalk
import Derived.Lib.LaidTab
import Derived.Stop.LaidErr
import Derived.Laws.Strings3
namespace Go.Proofs.YtkeeglpbhjnmdaaDoor
open Go.RowKit
theorem bcell {W w1 : World} (hb : Below W.heap.size W w1) : (∀ b o, b < W.heap.size → w1.cell? ⟨b, o, none⟩ = W.cell? ⟨b, o, none⟩) ∧ (∀ b o, b < W.heap.size → w1.frozen? ⟨b, o, none⟩ = W.frozen? ⟨b, o, none⟩) :=
  ⟨fun b o h => hb.cell (p := ⟨b, o, none⟩) h, fun b o h => hb.frozen (p := ⟨b, o, none⟩) h⟩


set_option maxHeartbeats 400000 in
theorem int_any (n : Int) (w : World) :
    Calls Tryd.prog 60 #[.int .i64 n] w fun e w' => e = .returned (.agg #[.bool false, .int .u64 (IntKind.u64.wrap n)]) ∧ Below w.heap.size w w' := by
  go_enter Tryd.func60, Tryd.ntmps60
  go_wp2
  exact bodyPost_ret (v := .agg #[.bool false, .int .u64 (IntKind.u64.wrap n)]) (by simp [results, Tryd.results60, go_sem]) rfl ⟨rfl, (Below.refl _ _).alloc (Nat.le_refl _) _⟩


/-- What a cell holds. -/
def cellv (w : World) (a : Addr) : Value := (w.cell? a).getD undef


theorem cellv_of {w : World} {a : Addr} {v : Value} (h : w.cell? a = some v) : w.cell? a = some (cellv w a) := by
  rw [cellv, h]; rfl


/-- A hex digit's byte. -/
def hd (d : Nat) : Int := if d < 10 then 48 + d else 87 + d


/-- A hex digit's byte, as a byte. -/
def hdB (d : Nat) : UInt8 := if d < 10 then UInt8.ofNat (48 + d) else UInt8.ofNat (87 + d)


theorem hdB_hd (d : Nat) (h : d < 16) : ((hdB d).toNat : Int) = hd d := by
  have h : d = 0 ∨ d = 1 ∨ d = 2 ∨ d = 3 ∨ d = 4 ∨ d = 5 ∨ d = 6 ∨ d = 7 ∨ d = 8 ∨ d = 9 ∨ d = 10 ∨ d = 11 ∨ d = 12 ∨ d = 13 ∨ d = 14 ∨ d = 15 := by omega
  rcases h with h | h | h | h | h | h | h | h | h | h | h | h | h | h | h | h <;> subst h <;> rfl


/-- The k + 1 digits of u to base 16. -/
def hexK (u k : Nat) : List UInt8 := (List.range (k + 1)).map fun j => hdB (u / 16 ^ (k - j) % 16)


/-- A number's digits to base 16, without noughts ahead. -/
def hexL (u : Nat) : List UInt8 := hexK u (u.log2 / 4)


theorem hexK_length (u k : Nat) : (hexK u k).length = k + 1 := by simp [hexK]


theorem ret_str {a b : ByteArray} (h : a = b) : Ending.returned (.string a) = .returned (.string b) := by rw [h]


theorem wrap64_range (x : Int) : -9223372036854775808 ≤ wrap64 x ∧ wrap64 x ≤ 9223372036854775807 := by unfold wrap64; omega


/-- A float's text: 0f, and its bits as sixteen digits. -/
def fltL (b : Nat) : List UInt8 := 48 :: 102 :: (List.replicate (16 - (hexL b).length) 48 ++ hexL b)


theorem hexL_length (u : Nat) (hu : u < 18446744073709551616) : (hexL u).length ≤ 16 ∧ 1 ≤ (hexL u).length := by
  unfold hexL; rw [hexK_length]
  by_cases h : u = 0
  · subst h; decide
  · have : u.log2 < 64 := (Nat.log2_lt h).2 hu
    omega


theorem stepB {w W W' : World} (h : Below w.heap.size w W) (hb : Below W.heap.size W W') : Below w.heap.size w W' := h.trans (hb.mono h.size)


/-- An int's bits. -/
def U (a : Int) : Int := IntKind.u64.wrap a


/-- Within 64 bits. -/
def InR (a : Int) : Prop := -9223372036854775808 ≤ a ∧ a ≤ 9223372036854775807


theorem U_eq (a : Int) : U a = a % 18446744073709551616 := by unfold U; exact IntKind.wrap_u64 a

theorem wrap64_U (a : Int) (h : InR a) : wrap64 (U a) = a := by obtain ⟨h1, h2⟩ := h; rw [U_eq]; unfold wrap64; omega

theorem U_wrap64 (a : Int) : U (wrap64 a) = U a := by rw [U_eq, U_eq]; unfold wrap64; omega

theorem InR_wrap64 (a : Int) : InR (wrap64 a) := wrap64_range a

theorem i64wrap (a : Int) : IntKind.i64.wrap a = wrap64 a := by unfold wrap64; exact IntKind.wrap_i64 a

theorem U_inj {a b : Int} (ha : InR a) (hb : InR b) (h : U a = U b) : a = b := by rw [← wrap64_U a ha, ← wrap64_U b hb, h]


theorem int_U (a : Int) (w : World) : Calls Tryd.prog 60 #[.int .i64 a] w fun e w' => e = .returned (.agg #[.bool false, .int .u64 (U a)]) ∧ Below w.heap.size w w' := int_any a w


end Go.Proofs.YtkeeglpbhjnmdaaDoor
