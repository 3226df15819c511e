import Derived.Test.YtdjcdecbmeickaaProg
import Derived.Lib.ParseIntB
import Derived.Lib.AtoiAll
import Derived.Lib.ItoaNum
import Derived.Lib.ParseIntBTie
import Derived.Lib.ParseIntBCases
import Derived.Test.YtdjcdecbmeickaaChecked
import Derived.WalkKit
import Derived.WalkSpells
import Derived.WalkLawsBesides
import Derived.Deep.RegionHeld3
import Derived.Deep.DeepCutAuto
import Derived.KernelRfl
import Derived.Lib.Hide
import Derived.Lib.ItoaWalk
import Derived.Lib.LaidTab
import Derived.Stop.LaidErr
import Derived.Laws.Strings3
import Derived.Maps.OwnSet
import Derived.Maps.OwnOps
import Derived.Maps.Views
import Derived.Deep.AppendLies
import Derived.Laws.EntriesVeiled
import Derived.OpenShut
import Derived.ProofKit
import Derived.RegionTactic
import Derived.BigRegion
import Derived.Lib.ConvBytes
import Derived.Lib.AtoiAllMem
import Derived.Laws.Closers25
import Derived.Laws.Closers25b
import Derived.Shelf.Strings.SlTrimAscii
import Derived.Laws.StructEq
import Derived.Deep.MidRow
import Derived.WalkMore
import Derived.Deep.QuietTactic
import Derived.BigQuiet
namespace Go.Proofs.Ytdjcdecbmeickaa
end Go.Proofs.Ytdjcdecbmeickaa
namespace Go.Proofs.Ytdjcdecbmeickaa
set_option maxHeartbeats 64000000
set_option maxRecDepth 100000
open Go.RowKit
theorem Hd {p : Prop} (h : p) : Hid p := Lib.hid h
theorem Ai {a b : Prop} (h : a) (k : b) : a ∧ b := ⟨h, k⟩
theorem Nr {n : Nat} : n ≤ n := Nat.le_refl n
theorem Br {n : Nat} {w : World} : Below n w w := Below.refl n w
theorem Oi {α : Type _} {a b : α} (h : some a = some b) : a = b := Option.some.inj h
theorem Bl {w : World} {a : Addr} {v : Value} (h : w.cell? a = some v) : a.block < w.heap.size := World.block_lt_of_cell? _ _ h
theorem Nt {a b c : Nat} (h : a ≤ b) (k : b ≤ c) : a ≤ c := Nat.le_trans h k
def hd (d : Nat) : Int := if d < 10 then 48 + d else 87 + d
def hdB (d : Nat) : UInt8 := if d < 10 then UInt8.ofNat (48 + d) else UInt8.ofNat (87 + d)
def hexK (u k : Nat) : List UInt8 := (List.range (k + 1)).map fun j => hdB (u / 16 ^ (k - j) % 16)
def hexL (u : Nat) : List UInt8 := hexK u (u.log2 / 4)
theorem hexK_length (u k : Nat) : (hexK u k).length = k + 1 := by simp [hexK]
def fltL (b : Nat) : List UInt8 := 48 :: 102 :: (List.replicate (16 - (hexL b).length) 48 ++ hexL b)
theorem hexL_length (u : Nat) (hu : u < 18446744073709551616) : (hexL u).length ≤ 16 ∧ 1 ≤ (hexL u).length := by
  unfold hexL; rw [hexK_length]
  by_cases h : u = 0
  · subst h; decide
  · have : u.log2 < 64 := (Nat.log2_lt h).2 hu
    omega
def U (a : Int) : Int := IntKind.u64.wrap a
def InR (a : Int) : Prop := -9223372036854775808 ≤ a ∧ a ≤ 9223372036854775807
theorem U_eq (a : Int) : U a = a % 18446744073709551616 := by unfold U; exact IntKind.wrap_u64 a
theorem wrap64_U (a : Int) (h : InR a) : wrap64 (U a) = a := by obtain ⟨h1, h2⟩ := h; rw [U_eq]; unfold wrap64; omega
theorem later' {w w' : World} (hb : Below w.heap.size w w') {a : Addr} {v : Value} (h : w.cell? a = some v) : w'.cell? a = some v := (hb.cell (Bl h)).trans h
theorem onB' {a b c : World} (h : Below a.heap.size a b) (k : Below b.heap.size b c) : Below a.heap.size a c := h.trans (k.mono h.size)
def KMap (w : World) (b n : Nat) (f : List UInt8 → Option Int) : Prop :=
  ∃ D : DataW Unit, w.ownsMap Try.prog 9 (plainElem Try.prog 3) b n D ∧ (∀ l, D.atKey (.string l) (.lit (.int .i64 0)) = .lit (.int .i64 ((f l).getD 0))) ∧ ∀ l, Maps.has D (.string l) = (f l).isSome
theorem KMap.same {w w' : World} {b n : Nat} {f : List UInt8 → Option Int} (h : KMap w b n f) (hk : w'.heap[b]? = w.heap[b]?) : KMap w' b n f := by
  obtain ⟨D, ⟨es, c, hb, r⟩, h2⟩ := h
  exact ⟨D, ⟨es, c, hk.trans hb, r⟩, h2⟩
theorem KMap.lt {w : World} {b n : Nat} {f : List UInt8 → Option Int} (h : KMap w b n f) : b < w.heap.size := by
  obtain ⟨D, h1, h2⟩ := h
  exact h1.lt
theorem KMap.later {w w' : World} {b n : Nat} {f : List UInt8 → Option Int} (h : KMap w b n f) (hb : Below w.heap.size w w') : KMap w' b n f := h.same (hb.block b h.lt)
def kput (f : List UInt8 → Option Int) (k : List UInt8) (u : Int) : List UInt8 → Option Int := fun l => if l = k then some u else f l
theorem KMap.put {w : World} {b n : Nat} {f : List UInt8 → Option Int} {D : DataW Unit} {k : List UInt8} {u : Int} (hT : Maps.Tidy D)
    (h1 : w.ownsMap Try.prog 9 (plainElem Try.prog 3) b n (D.put (.string k) (.lit (.int .i64 u)))) (h2 : ∀ l, D.atKey (.string l) (.lit (.int .i64 0)) = .lit (.int .i64 ((f l).getD 0))) (h3 : ∀ l, Maps.has D (.string l) = (f l).isSome) : KMap w b n (kput f k u) := by
  refine ⟨_, h1, fun l => ?_, fun l => ?_⟩
  · unfold kput
    by_cases e : l = k
    · subst e
      rw [if_pos rfl, Maps.atKey_put_same hT.isMap (by trivial)]
      rfl
    · rw [if_neg e, Maps.atKey_put_other (by simpa using e)]
      exact h2 l
  · unfold kput
    by_cases e : l = k
    · subst e
      rw [Maps.has_put_same hT.isMap (by trivial), if_pos rfl]
      rfl
    · rw [Maps.has_put_other (by simpa using e), h3, if_neg e]
def kputs (f : List UInt8 → Option Int) (l : List UInt8) (u : Int) : List UInt8 → Option Int := fun r => if ∃ c, c ∈ l ∧ r = [c] then some u else f r
def smallsB : ByteArray := ⟨#[97, 98, 99, 100, 101, 102, 103, 104, 105, 106, 107, 108, 109, 110, 111, 112, 113, 114, 115, 116, 117, 118, 119, 120, 121, 122]⟩
def capsB : ByteArray := ⟨#[65, 66, 67, 68, 69, 70, 71, 72, 73, 74, 75, 76, 77, 78, 79, 80, 81, 82, 83, 84, 85, 86, 87, 88, 89, 90]⟩
def digsB : ByteArray := ⟨#[48, 49, 50, 51, 52, 53, 54, 55, 56, 57]⟩
def wordF : List UInt8 → Option Int := (kput (kput (kput (kput (kput (kput (kput (kput (kput (kput (fun _ => none) [108, 101, 116] 5) [105, 110] 5) [99, 97, 115, 101] 5) [111, 102] 5) [100, 97, 116, 97] 5) [119, 101, 97, 107] 7) [100, 101, 114, 101, 102] 7) [115, 101, 113] 7) [102, 108, 111, 97, 116] 7) [116, 114, 117, 110, 99] 7)
def kindF : List UInt8 → Option Int := kputs (kputs (kputs wordF smallsB.data.toList 1) capsB.data.toList 2) digsB.data.toList 3
def isHex (c : UInt8) : Bool := decide (48 ≤ c.toNat ∧ c.toNat ≤ 57) || decide (97 ≤ c.toNat ∧ c.toNat ≤ 102)
def hexV (c : UInt8) : Nat := if c.toNat ≤ 57 then c.toNat - 48 else c.toNat - 87
def hexN (acc : Nat) : List UInt8 → Nat
  | [] => acc
  | c :: r => hexN (acc * 16 + hexV c) r
theorem pow16 {k : Nat} (h : k ≤ 15) : 16 ^ k ≤ 1152921504606846976 := Nt (Nat.pow_le_pow_right (by decide) h) (by decide)
def decB : ByteArray := ⟨#[48, 49, 50, 51, 52, 53, 54, 55, 56, 57]⟩
def madeOf (s l : List UInt8) : Bool := s.all fun c => l.contains c
def intF (l : List UInt8) : Bool := l == [48] || (!(Lib.trimPrefix l [45]).isEmpty && !((Lib.trimPrefix l [45]).head? == some 48) && madeOf (Lib.trimPrefix l [45]) decB.data.toList)
end Go.Proofs.Ytdjcdecbmeickaa
namespace Go.Proofs.Ytdjcdecbmeickaa
theorem digit_hex : ∀ c : UInt8, isHex c = true → hexV c < 16 ∧ hdB (hexV c) = c := by
  have h : ∀ n : Fin 256, isHex (UInt8.ofNat n.val) = true → hexV (UInt8.ofNat n.val) < 16 ∧ hdB (hexV (UInt8.ofNat n.val)) = UInt8.ofNat n.val := by decide +kernel
  intro c hc
  have e : UInt8.ofNat c.toNat = c := by simp
  have := h ⟨c.toNat, c.toNat_lt⟩
  simp only [e] at this
  exact this hc
theorem hexK_succ (u k : Nat) : hexK u (k + 1) = hdB (u / 16 ^ (k + 1) % 16) :: hexK u k := by
  unfold hexK
  rw [List.range_succ_eq_map, List.map_cons, List.map_map]
  simp only [Nat.sub_zero]
  congr 1
  apply List.map_congr_left
  intro j _
  simp only [Function.comp]
  rw [show k + 1 - (j + 1) = k - j by omega]
theorem hexN_split : ∀ (l : List UInt8) (acc : Nat), (∀ c ∈ l, isHex c = true) → ∃ v, hexN acc l = acc * 16 ^ l.length + v ∧ v < 16 ^ l.length
  | [], acc, _ => ⟨0, by simp [hexN], by simp⟩
  | c :: r, acc, h => by
    obtain ⟨v, h1, h2⟩ := hexN_split r (acc * 16 + hexV c) (fun x hx => h x (List.mem_cons_of_mem _ hx))
    have hc := (digit_hex c (h c (List.mem_cons_self ..))).1
    refine ⟨hexV c * 16 ^ r.length + v, ?_, ?_⟩
    · rw [hexN, h1, List.length_cons, Nat.pow_succ, Nat.add_mul, Nat.mul_assoc, Nat.mul_comm 16 (16 ^ r.length), Nat.add_assoc]
    · rw [List.length_cons, Nat.pow_succ]
      have : hexV c * 16 ^ r.length ≤ 15 * 16 ^ r.length := Nat.mul_le_mul_right _ (by omega)
      omega
theorem hexK_hexN : ∀ (l : List UInt8) (k acc : Nat), l.length = k + 1 → (∀ c ∈ l, isHex c = true) → hexK (hexN acc l) k = l
  | [], k, acc, h, _ => by simp at h
  | c :: r, 0, acc, h, hall => by
    have hr : r = [] := by simpa using h
    subst hr
    obtain ⟨h1, h2⟩ := digit_hex c (hall c (List.mem_cons_self ..))
    simp only [hexK, hexN, List.range_succ, List.range_zero, List.nil_append, List.map_cons, List.map_nil]
    simp only [Nat.sub_zero, Nat.pow_zero, Nat.div_one]
    rw [show (acc * 16 + hexV c) % 16 = hexV c by omega, h2]
  | c :: r, k + 1, acc, h, hall => by
    have hr : r.length = k + 1 := by simpa using h
    obtain ⟨h1, h2⟩ := digit_hex c (hall c (List.mem_cons_self ..))
    have ih := hexK_hexN r k (acc * 16 + hexV c) hr (fun x hx => hall x (List.mem_cons_of_mem _ hx))
    obtain ⟨v, e1, e2⟩ := hexN_split r (acc * 16 + hexV c) (fun x hx => hall x (List.mem_cons_of_mem _ hx))
    rw [hexK_succ]
    show hdB (hexN (acc * 16 + hexV c) r / 16 ^ (k + 1) % 16) :: hexK (hexN (acc * 16 + hexV c) r) k = c :: r
    rw [ih, e1, hr]
    rw [hr] at e2
    congr 1
    rw [Nat.mul_comm, Nat.mul_add_div (Nat.pow_pos (by decide)), Nat.div_eq_of_lt e2, Nat.add_zero, show (acc * 16 + hexV c) % 16 = hexV c by omega, h2]
theorem hexK_pad (u k : Nat) (h : u < 16 ^ (k + 1)) : ∀ n, hexK u (k + n) = List.replicate n 48 ++ hexK u k := by
  intro n
  induction n with
  | zero => simp
  | succ n ih =>
    rw [show k + (n + 1) = k + n + 1 by omega, hexK_succ, ih, List.replicate_succ, List.cons_append]
    congr 1
    have : u / 16 ^ (k + n + 1) = 0 := Nat.div_eq_of_lt (Nat.lt_of_lt_of_le h (Nat.pow_le_pow_right (by decide) (by omega)))
    rw [this]; rfl
theorem hexL_bound (u : Nat) : u < 16 ^ (u.log2 / 4 + 1) := by
  have h := Nat.lt_log2_self (n := u)
  refine Nat.lt_of_lt_of_le h ?_
  rw [show (16 : Nat) = 2 ^ 4 from rfl, ← Nat.pow_mul]
  exact Nat.pow_le_pow_right (by decide) (by omega)
theorem fltL_eq (b : Nat) (hb : b < 18446744073709551616) : fltL b = 48 :: 102 :: hexK b 15 := by
  unfold fltL
  have hl := (hexL_length b hb).1
  have e : (hexL b).length = b.log2 / 4 + 1 := hexK_length _ _
  have hp := hexK_pad b (b.log2 / 4) (hexL_bound b) (15 - b.log2 / 4)
  rw [show b.log2 / 4 + (15 - b.log2 / 4) = 15 by omega] at hp
  rw [hp, e, show 16 - (b.log2 / 4 + 1) = 15 - b.log2 / 4 by omega]
  rfl
theorem hex_back (l : List UInt8) (hl : l.length = 16) (hall : ∀ c ∈ l, isHex c = true) : hexN 0 l < 18446744073709551616 ∧ fltL (hexN 0 l) = 48 :: 102 :: l := by
  obtain ⟨v, e1, e2⟩ := hexN_split l 0 hall
  rw [hl] at e1 e2
  have hlt : hexN 0 l < 18446744073709551616 := by rw [e1, Nat.zero_mul, Nat.zero_add]; exact e2
  exact ⟨hlt, by rw [fltL_eq _ hlt, hexK_hexN l 15 0 hl hall]⟩
end Go.Proofs.Ytdjcdecbmeickaa
namespace Go.Proofs.Ytdjcdecbmeickaa
open Go.Lib (NumEnd parseUintM parseUintB parseIntB decDigits itoa)
def isDig (c : UInt8) : Bool := decide (48 ≤ c.toNat ∧ c.toNat ≤ 57)
def decN (acc : Nat) : List UInt8 → Nat
  | [] => acc
  | c :: r => decN (acc * 10 + (c.toNat - 48)) r
theorem dec_contains (c : UInt8) : decB.data.toList.contains c = isDig c := by
  have h : ∀ n : Fin 256, decB.data.toList.contains (UInt8.ofNat n.val) = isDig (UInt8.ofNat n.val) := by decide +kernel
  have e : UInt8.ofNat c.toNat = c := by simp
  have := h ⟨c.toNat, c.toNat_lt⟩
  simpa only [e] using this
theorem madeOf_dec (l : List UInt8) : madeOf l decB.data.toList = true ↔ ∀ c ∈ l, isDig c = true := by
  unfold madeOf; simp only [List.all_eq_true, dec_contains]
theorem dig_iff (c : UInt8) : isDig c = true ↔ 48 ≤ c.toNat ∧ c.toNat ≤ 57 := by unfold isDig; exact decide_eq_true_iff
theorem dig_back (c : UInt8) (h : isDig c = true) : UInt8.ofNat (48 + (c.toNat - 48)) = c := by
  obtain ⟨h1, h2⟩ := (dig_iff c).1 h
  rw [show 48 + (c.toNat - 48) = c.toNat by omega]; simp
theorem decN_append : ∀ (l : List UInt8) (acc : Nat) (c : UInt8), decN acc (l ++ [c]) = decN acc l * 10 + (c.toNat - 48)
  | [], _, _ => rfl
  | _ :: r, _, c => decN_append r _ c
theorem decN_ge : ∀ (l : List UInt8) (acc : Nat), acc ≤ decN acc l
  | [], _ => Nat.le_refl _
  | x :: r, acc => by
    have := decN_ge r (acc * 10 + (x.toNat - 48))
    show acc ≤ decN (acc * 10 + (x.toNat - 48)) r
    omega
theorem parse_digits (M : Nat) (hM : M ≤ 18446744073709551615) : ∀ (l : List UInt8) (acc : Nat), (∀ c ∈ l, isDig c = true) → decN acc l ≤ M → parseUintM M acc l = .ok (decN acc l)
  | [], acc, _, _ => rfl
  | c :: r, acc, h, hle => by
    have hc := (dig_iff c).1 (h c (List.mem_cons_self ..))
    have hge := decN_ge r (acc * 10 + (c.toNat - 48))
    have hle' : decN (acc * 10 + (c.toNat - 48)) r ≤ M := hle
    have ih := parse_digits M hM r (acc * 10 + (c.toNat - 48)) (fun x hx => h x (List.mem_cons_of_mem _ hx)) hle'
    rw [parseUintM, if_pos hc, if_neg (by omega), if_neg (by omega), ih]
    rfl
theorem parse_ok (M : Nat) : ∀ (l : List UInt8) (acc u : Nat), parseUintM M acc l = .ok u → (∀ c ∈ l, isDig c = true) ∧ u = decN acc l
  | [], acc, u, h => by
    simp only [parseUintM, NumEnd.ok.injEq] at h
    exact ⟨by simp, h.symm⟩
  | c :: r, acc, u, h => by
    rw [parseUintM] at h
    split at h
    · rename_i hc
      split at h
      · cases h
      · split at h
        · cases h
        · obtain ⟨h1, h2⟩ := parse_ok M r _ u h
          refine ⟨fun x hx => ?_, h2⟩
          rcases List.mem_cons.1 hx with rfl | hx
          · exact (dig_iff _).2 hc
          · exact h1 x hx
    · cases h
def Plain {α : Type} (e : NumEnd α) : Prop :=
  match e with
  | .ok _ => True
  | .range => True
  | _ => False
theorem parse_plain (M : Nat) : ∀ (l : List UInt8) (acc : Nat), (∀ c ∈ l, isDig c = true) → Plain (parseUintM M acc l)
  | [], acc, _ => by simp [parseUintM, Plain]
  | c :: r, acc, h => by
    have hc := (dig_iff c).1 (h c (List.mem_cons_self ..))
    have ih := parse_plain M r (acc * 10 + (c.toNat - 48)) (fun x hx => h x (List.mem_cons_of_mem _ hx))
    rw [parseUintM, if_pos hc]
    split
    · simp [Plain]
    · split
      · simp [Plain]
      · exact ih
theorem digits_back : ∀ (n : Nat) (l : List UInt8), l.length = n → l ≠ [] → (∀ c ∈ l, isDig c = true) → l.head? ≠ some 48 → decDigits (decN 0 l) = l ∧ 1 ≤ decN 0 l := by
  intro n
  induction n using Nat.strongRecOn with
  | _ n ih =>
    intro l hl hne hall hh
    rcases List.eq_nil_or_concat l with h0 | ⟨i, c, h0⟩
    · exact absurd h0 hne
    · rw [List.concat_eq_append] at h0
      subst h0
      have hc := hall c (by simp)
      have hc' := (dig_iff c).1 hc
      by_cases hi : i = []
      · subst hi
        have hn : c.toNat ≠ 48 := by
          intro e
          apply hh
          simp only [List.nil_append, List.head?_cons, Option.some.injEq]
          exact UInt8.toNat_inj.1 e
        have e1 : decN 0 ([] ++ [c]) = c.toNat - 48 := by show 0 * 10 + (c.toNat - 48) = c.toNat - 48; omega
        rw [e1]
        refine ⟨?_, by omega⟩
        rw [decDigits, dif_pos (by omega), dig_back c hc]
        rfl
      · have hlen : i.length < n := by rw [← hl]; simp
        have hh' : i.head? ≠ some 48 := by
          intro e
          apply hh
          rw [List.head?_append, e]; rfl
        obtain ⟨h1, h2⟩ := ih i.length hlen i rfl hi (fun x hx => hall x (by simp [hx])) hh'
        rw [decN_append]
        refine ⟨?_, by omega⟩
        rw [decDigits, dif_neg (by omega), show (decN 0 i * 10 + (c.toNat - 48)) / 10 = decN 0 i by omega, show (decN 0 i * 10 + (c.toNat - 48)) % 10 = c.toNat - 48 by omega, h1, dig_back c hc]
end Go.Proofs.Ytdjcdecbmeickaa
namespace Go.Proofs.Ytdjcdecbmeickaa
set_option maxHeartbeats 64000000
set_option maxRecDepth 100000
open Go.RowKit
open Go.Lib (NumEnd parseUintM parseUintB parseIntB decDigits itoa)
theorem trim_minus (r : List UInt8) : Lib.trimPrefix (45 :: r) [45] = r := by simp [Lib.trimPrefix, Lib.hasPrefix]
theorem trim_plain (c : UInt8) (r : List UInt8) (h : c ≠ 45) : Lib.trimPrefix (c :: r) [45] = c :: r := by
  simp [Lib.trimPrefix, Lib.hasPrefix, Ne.symm h]
theorem digits_zero : decDigits 0 = [48] := by rw [decDigits, dif_pos (by decide)]; rfl
theorem itoa_zero : itoa 0 = [48] := by unfold itoa; rw [if_neg (by decide)]; exact digits_zero
theorem dig_not (c : UInt8) (h : isDig c = true) : c.toNat ≠ 43 ∧ c.toNat ≠ 45 ∧ c ≠ 45 := by
  have := (dig_iff c).1 h
  refine ⟨by omega, by omega, fun e => ?_⟩
  have e1 : (45 : UInt8).toNat = 45 := rfl
  rw [e, e1] at this
  omega
def Mag (d : List UInt8) : Prop := d ≠ [] ∧ d.head? ≠ some 48 ∧ ∀ c ∈ d, isDig c = true
theorem intF_mag (d : List UInt8) : (!d.isEmpty && !(d.head? == some 48) && madeOf d decB.data.toList) = true ↔ Mag d := by
  unfold Mag
  rw [Bool.and_eq_true, Bool.and_eq_true, madeOf_dec]
  simp [and_assoc]
theorem intF_cases (l : List UInt8) : intF l = true ↔ l = [48] ∨ (∃ d, l = 45 :: d ∧ Mag d) ∨ Mag l := by
  unfold intF
  rw [Bool.or_eq_true, intF_mag, beq_iff_eq]
  constructor
  · rintro (h | h)
    · exact Or.inl h
    · cases l with
      | nil => exact absurd rfl h.1
      | cons c r =>
        by_cases e : c = 45
        · subst e
          rw [trim_minus] at h
          exact Or.inr (Or.inl ⟨r, rfl, h⟩)
        · rw [trim_plain c r e] at h
          exact Or.inr (Or.inr h)
  · rintro (h | ⟨d, rfl, h⟩ | h)
    · exact Or.inl h
    · rw [trim_minus]; exact Or.inr h
    · cases l with
      | nil => exact absurd rfl h.1
      | cons c r => rw [trim_plain c r (dig_not c (h.2.2 c (List.mem_cons_self ..))).2.2]; exact Or.inr h
theorem pu_mag (d : List UInt8) (h : Mag d) : parseUintB 64 d = parseUintM 18446744073709551615 0 d := by
  unfold parseUintB
  rw [if_neg h.1]
theorem pi_minus (d : List UInt8) (h : Mag d) : parseIntB 64 (45 :: d) = Lib.signedC 9223372036854775808 (parseUintM 18446744073709551615 0 d) := by
  rw [Lib.parseIntB_minus, pu_mag d h]
theorem pi_plain (d : List UInt8) (h : Mag d) : parseIntB 64 d = Lib.signlessC 9223372036854775808 (parseUintM 18446744073709551615 0 d) := by
  have hp := pu_mag d h
  obtain ⟨h1, _, h3⟩ := h
  cases d with
  | nil => exact absurd rfl h1
  | cons c r =>
    obtain ⟨n1, n2, _⟩ := dig_not c (h3 c (List.mem_cons_self ..))
    rw [Lib.parseIntB_plain 64 c r n1 n2, hp]
theorem pi_zero : parseIntB 64 [48] = .ok 0 := by decide
theorem int_back (l : List UInt8) (v : Int) (hf : intF l = true) (hv : parseIntB 64 l = .ok v) : itoa v = l := by
  rcases (intF_cases l).1 hf with rfl | ⟨d, rfl, hd⟩ | hd
  · rw [pi_zero] at hv
    obtain rfl : v = 0 := by simpa using hv.symm
    exact itoa_zero
  · rw [pi_minus d hd] at hv
    cases hp : parseUintM 18446744073709551615 0 d with
    | range => rw [hp] at hv; cases hv
    | ok u =>
      rw [hp] at hv
      simp only [Lib.signedC] at hv
      split at hv
      · cases hv
      · obtain ⟨_, hu⟩ := parse_ok _ d 0 u hp
        obtain ⟨b1, b2⟩ := digits_back d.length d rfl hd.1 hd.2.2 hd.2.1
        rw [← hu] at b1 b2
        obtain rfl : v = -(u : Int) := by simpa using hv.symm
        unfold itoa
        rw [if_pos (by omega), show (-(u : Int)).natAbs = u by omega, b1]
    | _ => rw [hp] at hv; cases hv
  · rw [pi_plain l hd] at hv
    cases hp : parseUintM 18446744073709551615 0 l with
    | range => rw [hp] at hv; cases hv
    | ok u =>
      rw [hp] at hv
      simp only [Lib.signlessC] at hv
      split at hv
      · cases hv
      · obtain ⟨_, hu⟩ := parse_ok _ l 0 u hp
        obtain ⟨b1, b2⟩ := digits_back l.length l rfl hd.1 hd.2.2 hd.2.1
        rw [← hu] at b1 b2
        obtain rfl : v = (u : Int) := by simpa using hv.symm
        unfold itoa
        rw [if_neg (by omega), show (u : Int).toNat = u by omega, b1]
    | _ => rw [hp] at hv; cases hv
end Go.Proofs.Ytdjcdecbmeickaa
namespace Go.Proofs.Ytdjcdecbmeickaa
set_option maxHeartbeats 64000000
set_option maxRecDepth 100000
open Go.RowKit
open Go.Lib (NumEnd parseIntB itoa)
def parseL (l : List UInt8) : Bool × Int × Int :=
  if Lib.hasPrefix l [48, 102] = true then
    (if (l.drop 2).length = 16 ∧ ∀ c ∈ l.drop 2, isHex c = true then (true, ((hexN 0 (l.drop 2) : Nat) : Int), 0) else (false, 0, 3))
  else if intF l = true then (match parseIntB 64 l with | .ok v => (false, U v, 0) | _ => (false, 0, 1)) else (false, 0, 3)
end Go.Proofs.Ytdjcdecbmeickaa
namespace Go.Proofs.Ytdjcdecbmeickaa
set_option maxHeartbeats 64000000
set_option maxRecDepth 100000
open Go.RowKit Go.Lib
structure Tk where
  k : Int
  t : List UInt8
  f : Bool
  x : Int
def Tk.zero : Tk := ⟨0, [], false, 0⟩
def runsB : ByteArray := ⟨#[97, 98, 99, 100, 101, 102, 103, 104, 105, 106, 107, 108, 109, 110, 111, 112, 113, 114, 115, 116, 117, 118, 119, 120, 121, 122, 65, 66, 67, 68, 69, 70, 71, 72, 73, 74, 75, 76, 77, 78, 79, 80, 81, 82, 83, 84, 85, 86, 87, 88, 89, 90, 48, 49, 50, 51, 52, 53, 54, 55, 56, 57, 95]⟩
def inRun (c : UInt8) : Bool := runsB.data.toList.contains c
def runL (l : List UInt8) : List UInt8 := l.takeWhile inRun
def markedL (l : List UInt8) : List UInt8 := l.take (l.length - (trimPrefix (l.drop 1) [45]).length + (runL (trimPrefix (l.drop 1) [45])).length)
def numT (t : List UInt8) : Tk × Int := if (parseL (trimPrefix t [35])).2.2 = 0 then (⟨3, t, (parseL (trimPrefix t [35])).1, (parseL (trimPrefix t [35])).2.1⟩, 0) else (.zero, (parseL (trimPrefix t [35])).2.2)
theorem trimP_le (l p : List UInt8) : (trimPrefix l p).length ≤ l.length := by
  unfold trimPrefix
  split
  · simp
  · exact Nat.le_refl _
theorem run_le (l : List UInt8) : (runL l).length ≤ l.length := (List.takeWhile_sublist _).length_le
theorem tail_list (s : ByteArray) (k : Nat) : (s.extract k s.size).data.toList = s.data.toList.drop k := by
  have e : (s.extract k s.size).data.toList = (s.data.toList.drop k).take (s.size - k) := by simp [ByteArray.data_extract]
  rw [e, List.take_of_length_le]
  rw [List.length_drop, size_eq s]
  omega
theorem back_list (l : List UInt8) : (⟨l.toArray⟩ : ByteArray).data.toList = l := by simp
theorem set5 {W : World} {b : Nat} {u0 u1 u2 u3 u4 : Value} (h0 : W.cell? ⟨b, 0, none⟩ = some u0) (h1 : W.cell? ⟨b, 1, none⟩ = some u1) (h2 : W.cell? ⟨b, 2, none⟩ = some u2) (h3 : W.cell? ⟨b, 3, none⟩ = some u3) (h4 : W.cell? ⟨b, 4, none⟩ = some u4) (v0 v1 v2 v3 v4 : Value) :
    (((((W.setCell ⟨b, 0, none⟩ v0).setCell ⟨b, 1, none⟩ v1).setCell ⟨b, 2, none⟩ v2).setCell ⟨b, 3, none⟩ v3).setCell ⟨b, 4, none⟩ v4).cell? ⟨b, 0, none⟩ = some v0 ∧
    (((((W.setCell ⟨b, 0, none⟩ v0).setCell ⟨b, 1, none⟩ v1).setCell ⟨b, 2, none⟩ v2).setCell ⟨b, 3, none⟩ v3).setCell ⟨b, 4, none⟩ v4).cell? ⟨b, 1, none⟩ = some v1 ∧
    (((((W.setCell ⟨b, 0, none⟩ v0).setCell ⟨b, 1, none⟩ v1).setCell ⟨b, 2, none⟩ v2).setCell ⟨b, 3, none⟩ v3).setCell ⟨b, 4, none⟩ v4).cell? ⟨b, 2, none⟩ = some v2 ∧
    (((((W.setCell ⟨b, 0, none⟩ v0).setCell ⟨b, 1, none⟩ v1).setCell ⟨b, 2, none⟩ v2).setCell ⟨b, 3, none⟩ v3).setCell ⟨b, 4, none⟩ v4).cell? ⟨b, 3, none⟩ = some v3 ∧
    (((((W.setCell ⟨b, 0, none⟩ v0).setCell ⟨b, 1, none⟩ v1).setCell ⟨b, 2, none⟩ v2).setCell ⟨b, 3, none⟩ v3).setCell ⟨b, 4, none⟩ v4).cell? ⟨b, 4, none⟩ = some v4 := by
  have o : ∀ (W : World) (i j : Nat) (v : Value), i ≠ j → (W.setCell ⟨b, i, none⟩ v).cell? ⟨b, j, none⟩ = W.cell? ⟨b, j, none⟩ := fun W i j v h => World.cell?_setCell_other _ _ _ _ (by first | (intro e; cases e; exact h rfl) | simp [h])
  refine ⟨?_, ?_, ?_, ?_, ?_⟩
  · rw [o _ _ _ _ (by decide), o _ _ _ _ (by decide), o _ _ _ _ (by decide), o _ _ _ _ (by decide)]
    exact World.cell?_setCell_same _ _ _ h0
  · rw [o _ _ _ _ (by decide), o _ _ _ _ (by decide), o _ _ _ _ (by decide)]
    exact World.cell?_setCell_same _ _ _ (u := u1) (by rw [o _ _ _ _ (by decide)]; exact h1)
  · rw [o _ _ _ _ (by decide), o _ _ _ _ (by decide)]
    exact World.cell?_setCell_same _ _ _ (u := u2) (by rw [o _ _ _ _ (by decide), o _ _ _ _ (by decide)]; exact h2)
  · rw [o _ _ _ _ (by decide)]
    exact World.cell?_setCell_same _ _ _ (u := u3) (by rw [o _ _ _ _ (by decide), o _ _ _ _ (by decide), o _ _ _ _ (by decide)]; exact h3)
  · exact World.cell?_setCell_same _ _ _ (u := u4) (by rw [o _ _ _ _ (by decide), o _ _ _ _ (by decide), o _ _ _ _ (by decide), o _ _ _ _ (by decide)]; exact h4)
theorem below_set5 {n : Nat} {w W : World} (h : Below n w W) {b : Nat} (hb : n ≤ b) (v0 v1 v2 v3 v4 : Value) : Below n w (((((W.setCell ⟨b, 0, none⟩ v0).setCell ⟨b, 1, none⟩ v1).setCell ⟨b, 2, none⟩ v2).setCell ⟨b, 3, none⟩ v3).setCell ⟨b, 4, none⟩ v4) :=
  ((((h.setCell hb _).setCell hb _).setCell hb _).setCell hb _).setCell hb _
def signsB : List (ByteArray × Int) := [(⟨#[61, 61, 46]⟩, 4), (⟨#[61, 61]⟩, 4), (⟨#[61]⟩, 6), (⟨#[45, 62]⟩, 6), (⟨#[45, 46]⟩, 4), (⟨#[45]⟩, 4), (⟨#[43, 46]⟩, 4), (⟨#[43]⟩, 4), (⟨#[42, 46]⟩, 4), (⟨#[42]⟩, 4), (⟨#[47, 46]⟩, 4), (⟨#[47]⟩, 4), (⟨#[60, 46]⟩, 4), (⟨#[60]⟩, 4), (⟨#[37]⟩, 4), (⟨#[40]⟩, 6), (⟨#[41]⟩, 6), (⟨#[123]⟩, 6), (⟨#[125]⟩, 6), (⟨#[59]⟩, 6), (⟨#[92]⟩, 6)]
def signL (l : List UInt8) : Option (ByteArray × Int) := signsB.find? fun x => hasPrefix l x.1.data.toList
theorem set2 {W : World} {b : Nat} {u0 u1 : Value} (h0 : W.cell? ⟨b, 0, none⟩ = some u0) (h1 : W.cell? ⟨b, 1, none⟩ = some u1) (v0 v1 : Value) :
    ((W.setCell ⟨b, 0, none⟩ v0).setCell ⟨b, 1, none⟩ v1).cell? ⟨b, 0, none⟩ = some v0 ∧ ((W.setCell ⟨b, 0, none⟩ v0).setCell ⟨b, 1, none⟩ v1).cell? ⟨b, 1, none⟩ = some v1 := by
  have o : ∀ (W : World) (i j : Nat) (v : Value), i ≠ j → (W.setCell ⟨b, i, none⟩ v).cell? ⟨b, j, none⟩ = W.cell? ⟨b, j, none⟩ := fun W i j v h => World.cell?_setCell_other _ _ _ _ (by first | (intro e; cases e; exact h rfl) | simp [h])
  refine ⟨?_, ?_⟩
  · rw [o _ _ _ _ (by decide)]
    exact World.cell?_setCell_same _ _ _ h0
  · exact World.cell?_setCell_same _ _ _ (u := u1) (by rw [o _ _ _ _ (by decide)]; exact h1)
def kindOf (l : List UInt8) : Int := if (kindF (runL l)).isSome = true then (kindF (runL l)).getD 0 else (kindF (l.take 1)).getD 0
def readR (l : List UInt8) : Tk × Int := if kindOf l = 0 then (.zero, 3) else if kindOf l = 3 then numT (runL l) else if 16 < (runL l).length then (.zero, 9) else (⟨kindOf l, runL l, false, 0⟩, 0)
def readL (l : List UInt8) : Tk × Int :=
  match signL l with
  | some x => (⟨x.2, x.1.data.toList, false, 0⟩, 0)
  | none => if hasPrefix l [35] = true then numT (markedL l) else readR l
structure Tok0 (W : World) (b : Nat) : Prop where
  d0 : W.cell? ⟨b, 0, none⟩ = some (.int .i64 0)
  d1 : W.cell? ⟨b, 1, none⟩ = some (.string ⟨#[]⟩)
  d2 : W.cell? ⟨b, 2, none⟩ = some (.bool false)
  d3 : W.cell? ⟨b, 3, none⟩ = some (.int .u64 0)
  d4 : W.cell? ⟨b, 4, none⟩ = some (.int .i64 0)
  z : ∀ j, W.frozen? ⟨b, j, none⟩ = false
theorem Tok0.later {W W' : World} {b : Nat} (h : Tok0 W b) (hb : Below W.heap.size W W') : Tok0 W' b := by
  have lt := Bl h.d0
  exact ⟨later' hb h.d0, later' hb h.d1, later' hb h.d2, later' hb h.d3, later' hb h.d4, fun j => (World.frozen?_of_block (w := W) (hb.block _ (by simpa using lt))).trans (h.z j)⟩
inductive Res where
  | good (l : List (Tk × Int))
  | bad (e line : Int)
def lexA : Nat → List UInt8 → Int → List (Tk × Int) → Res
  | 0, _, _, acc => .good acc
  | _ + 1, [], _, acc => .good acc
  | n + 1, c :: r, line, acc =>
    if c = 10 then lexA n r (line + 1) acc
    else if c = 9 ∨ c = 13 ∨ c = 32 then lexA n r line acc
    else if hasPrefix (c :: r) [45, 45] = true then
      (if indexByte (c :: r) 10 < 0 then .good acc else lexA n ((c :: r).drop (indexByte (c :: r) 10).toNat) line acc)
    else if (readL (c :: r)).2 = 0 then
      (if acc.length = 4096 then .bad 2 line else lexA n ((c :: r).drop (readL (c :: r)).1.t.length) line (acc ++ [((readL (c :: r)).1, line)]))
    else .bad (readL (c :: r)).2 line
def lexL (l : List UInt8) : Res := lexA (l.length + 1) l 1 []
theorem word_one (c : UInt8) : wordF [c] = none := by simp [wordF, kput]
theorem word_nil : kindF [] = none := by
  simp [kindF, kputs, wordF, kput]
theorem kind_run (c : UInt8) (h : inRun c = false) : kindF [c] = none := by
  have nm : ∀ (l : List UInt8), (∀ x, x ∈ l → inRun x = true) → ∀ (f : List UInt8 → Option Int) u, kputs f l u [c] = f [c] := fun l hl f u => by
    unfold kputs
    rw [if_neg]
    rintro ⟨x, hx, e⟩
    simp only [List.cons.injEq, and_true] at e
    subst e
    rw [hl _ hx] at h
    cases h
  unfold kindF
  rw [nm _ (by decide), nm _ (by decide), nm _ (by decide), word_one]
theorem run_nil {c : UInt8} {r : List UInt8} (h : runL (c :: r) = []) : inRun c = false := by
  unfold runL at h
  rw [List.takeWhile_cons] at h
  cases g : inRun c with
  | false => rfl
  | true => rw [g] at h; simp at h
theorem kindOf_nil {c : UInt8} {r : List UInt8} (h : runL (c :: r) = []) : kindOf (c :: r) = 0 := by
  unfold kindOf
  rw [h, word_nil]
  simp [kind_run c (run_nil h)]
theorem numT_ok {t : List UInt8} (h : (numT t).2 = 0) : (numT t).1.t = t := by
  unfold numT at *
  split
  · rfl
  · rename_i g
    rw [if_neg g] at h
    exact absurd h g
theorem sign_pos : ∀ x, x ∈ signsB → 1 ≤ x.1.data.toList.length := by decide
theorem sign_some {l : List UInt8} {x : ByteArray × Int} (h : signL l = some x) : 1 ≤ x.1.data.toList.length ∧ x.1.data.toList.length ≤ l.length := by
  unfold signL at h
  have h1 := List.mem_of_find?_eq_some h
  have h2 := List.find?_some h
  refine ⟨sign_pos x h1, ?_⟩
  unfold hasPrefix at h2
  exact (List.isPrefixOf_iff_prefix.1 h2).length_le
theorem read_len {c : UInt8} {r : List UInt8} (h : (readL (c :: r)).2 = 0) : 1 ≤ (readL (c :: r)).1.t.length ∧ (readL (c :: r)).1.t.length ≤ (c :: r).length := by
  have hm : 1 ≤ (markedL (c :: r)).length ∧ (markedL (c :: r)).length ≤ (c :: r).length := by
    unfold markedL
    have h1 := trimP_le ((c :: r).drop 1) [45]
    simp only [List.drop_succ_cons, List.drop_zero] at h1
    rw [List.length_take]
    simp only [List.length_cons, List.drop_succ_cons, List.drop_zero]
    omega
  have hr := run_le (c :: r)
  unfold readL at *
  cases hs : signL (c :: r) with
  | some x => exact sign_some hs
  | none =>
    rw [hs] at h
    simp only at h ⊢
    split at h
    · rename_i g
      rw [if_pos g, numT_ok h]
      exact hm
    · rename_i g
      rw [if_neg g]
      unfold readR at *
      split at h
      · cases h
      · rename_i g0
        rw [if_neg g0]
        have hne : runL (c :: r) ≠ [] := fun e => g0 (kindOf_nil e)
        have hpos : 1 ≤ (runL (c :: r)).length := by
          cases hh : runL (c :: r) with
          | nil => exact absurd hh hne
          | cons a b => simp
        split at h
        · rename_i g3
          rw [if_pos g3, numT_ok h]
          exact ⟨hpos, hr⟩
        · rename_i g3
          rw [if_neg g3]
          split at h
          · cases h
          · rename_i g16
            rw [if_neg g16]
            exact ⟨hpos, hr⟩
theorem index_le : ∀ (l : List UInt8) (c : UInt8), indexByte l c ≤ l.length ∧ -1 ≤ indexByte l c ∧ (indexByte l c < 0 → indexByte l c = -1) ∧ (indexByte l c = l.length → l = [] ∨ indexByte l c = -1)
  | [], c => ⟨by simp [indexByte], by simp [indexByte], fun _ => by simp [indexByte], fun _ => Or.inl rfl⟩
  | b :: l, c => by
    obtain ⟨h1, h2, h3, h4⟩ := index_le l c
    unfold indexByte
    by_cases g : (b == c) = true
    · rw [if_pos g]
      simp only [List.length_cons]
      refine ⟨by omega, by omega, fun h => by omega, fun h => by omega⟩
    · rw [if_neg g]
      by_cases g2 : (indexByte l c == -1) = true
      · rw [if_pos g2]
        simp only [List.length_cons]
        refine ⟨by omega, by omega, fun h => by trivial, fun h => Or.inr (by trivial)⟩
      · rw [if_neg g2]
        have g3 : indexByte l c ≠ -1 := by simpa using g2
        simp only [List.length_cons]
        refine ⟨by omega, by omega, fun h => by omega, fun h => ?_⟩
        rcases h4 (by omega) with e | e
        · subst e
          simp [indexByte] at g3
        · exact absurd e g3
theorem ba_of {b : ByteArray} {l : List UInt8} (h : b.data.toList = l) : b = ⟨l.toArray⟩ := by
  subst h
  cases b
  simp
def flatT : List (Tk × Int) → List Value
  | [] => []
  | x :: r => [.int .i64 x.1.k, .string ⟨x.1.t.toArray⟩, .bool x.1.f, .int .u64 x.1.x, .int .i64 x.2] ++ flatT r
theorem flatT_append (a b : List (Tk × Int)) : flatT (a ++ b) = flatT a ++ flatT b := by
  induction a with
  | nil => rfl
  | cons x a ih => simp only [List.cons_append, flatT, ih, List.append_assoc]
theorem Try.info_token : (Try.prog.info? 77).map (fun i => (i.zero, i.size, i.bytes)) = some (some (.agg #[.int .i64 0, .string ⟨#[]⟩, .bool false, .int .u64 0, .int .i64 0]), 5, 48) := by kernel_rfl
theorem info_parts {P : Program} {e : TypeId} {z : Value} {n b : Nat} (h : (P.info? e).map (fun i => (i.zero, i.size, i.bytes)) = some (some z, n, b)) : ∃ i, P.info? e = some i ∧ i.zero = some z ∧ i.size = n ∧ i.bytes = b := by
  cases hi : P.info? e with
  | none => rw [hi] at h; cases h
  | some i =>
    rw [hi] at h
    simp only [Option.map_some, Option.some.injEq, Prod.mk.injEq] at h
    exact ⟨i, rfl, h.1, h.2.1, h.2.2⟩
theorem letter_at (s : ByteArray) (k : Nat) (hk : k < s.size) (w : World) : (Instr.index 9 (.string s) (.int .i64 (k : Int))).run Try.prog w = .ok (.int .u8 (s.data.toList.getD k 0).toNat) w := by
  rw [run_index_string w 9 s .i64 _ Try.underlying9, dif_pos (by omega)]
  have hz := Lib.size_eq s
  have e : s[((k : Int)).toNat]'(by omega) = s.data.toList.getD k 0 := by
    simp only [Int.toNat_natCast]
    rw [List.getD, List.getElem?_eq_getElem (by omega)]
    rfl
  rw [e]
def LexSaid (R : Res) (w : World) (e : Ending) (w' : World) : Prop :=
  Below w.heap.size w w' ∧ match R with
  | .good T => ∃ a n c, e = .returned (.tuple #[.slice a n c, .int .i64 0, .int .i64 0]) ∧ w'.ownsRow w.heap.size 77 5 (.slice a n c) T.length (flatT T)
  | .bad k line => e = .returned (.tuple #[.slice none 0 0, .int .i64 k, .int .i64 line])
theorem own_same {base : Nat} {e : TypeId} {size : Nat} {v : Value} {n : Nat} {xs : List Value} {W W' : World} (h : W.ownsRow base e size v n xs) (hk : ∀ g, v.ownBlock = some g → W'.heap[g]? = W.heap[g]?) : W'.ownsRow base e size v n xs := by
  refine ⟨h.1, ?_⟩
  rcases h.2 with e | ⟨g, cap, cur, rfl, hg, hb, hr⟩
  · exact Or.inl e
  · exact Or.inr ⟨g, cap, cur, rfl, hg, (hk g rfl).trans hb, hr⟩
theorem own_base {base base' : Nat} {e : TypeId} {size : Nat} {v : Value} {n : Nat} {xs : List Value} {W : World} (h : W.ownsRow base e size v n xs) (hb : base' ≤ base) : W.ownsRow base' e size v n xs := by
  refine ⟨h.1, ?_⟩
  rcases h.2 with e | ⟨g, cap, cur, rfl, hg, hr⟩
  · exact Or.inl e
  · exact Or.inr ⟨g, cap, cur, rfl, Nt hb hg, hr⟩
theorem own_below {base : Nat} {e : TypeId} {size : Nat} {v : Value} {n : Nat} {xs : List Value} {W W' : World} (h : W.ownsRow base e size v n xs) (hb : Below W.heap.size W W') : W'.ownsRow base e size v n xs :=
  own_same h fun g hg => hb.block g (h.lt g hg).2
theorem index_pos {c : UInt8} {r : List UInt8} (h : c ≠ 10) : indexByte (c :: r) 10 < 0 ∨ 1 ≤ indexByte (c :: r) 10 := by
  obtain ⟨h1, h2, h3, h4⟩ := index_le r 10
  unfold indexByte
  have e : (c == 10) = false := by simpa using h
  rw [e]
  simp only [Bool.false_eq_true, if_false]
  by_cases g2 : (indexByte r 10 == -1) = true
  · rw [if_pos g2]
    exact Or.inl (by decide)
  · rw [if_neg g2]
    have g3 : indexByte r 10 ≠ -1 := by simpa using g2
    exact Or.inr (by omega)
theorem flatT_get : ∀ {T : List (Tk × Int)} {q : Nat} (hq : q < T.length), (flatT T)[q * 5]? = some (.int .i64 (T[q]).1.k) ∧ (flatT T)[q * 5 + 1]? = some (.string ⟨(T[q]).1.t.toArray⟩) ∧ (flatT T)[q * 5 + 2]? = some (.bool (T[q]).1.f) ∧ (flatT T)[q * 5 + 3]? = some (.int .u64 (T[q]).1.x) ∧ (flatT T)[q * 5 + 4]? = some (.int .i64 (T[q]).2)
  | [], q, hq => by cases hq
  | x :: T, 0, _ => ⟨rfl, rfl, rfl, rfl, rfl⟩
  | x :: T, q + 1, hq => by
    obtain ⟨h0, h1, h2, h3, h4⟩ := flatT_get (T := T) (q := q) (by simpa using hq)
    have e : ∀ c, (flatT (x :: T))[(q + 1) * 5 + c]? = (flatT T)[q * 5 + c]? := fun c => by
      rw [show (q + 1) * 5 + c = (q * 5 + c) + 1 + 1 + 1 + 1 + 1 by omega]
      simp [flatT]
    have e0 := e 0
    simp only [Nat.add_zero] at e0
    exact ⟨e0.trans h0, (e 1).trans h1, (e 2).trans h2, (e 3).trans h3, (e 4).trans h4⟩
structure TokAt (W : World) (g : Nat) (j : Nat) (x : Tk × Int) : Prop where
  c0 : W.cell? ⟨g, j * 5, none⟩ = some (.int .i64 x.1.k)
  c1 : W.cell? ⟨g, j * 5 + 1, none⟩ = some (.string ⟨x.1.t.toArray⟩)
  c2 : W.cell? ⟨g, j * 5 + 2, none⟩ = some (.bool x.1.f)
  c3 : W.cell? ⟨g, j * 5 + 3, none⟩ = some (.int .u64 x.1.x)
  c4 : W.cell? ⟨g, j * 5 + 4, none⟩ = some (.int .i64 x.2)
theorem TokAt.later {W W' : World} {g j : Nat} {x : Tk × Int} (h : TokAt W g j x) (hb : Below W.heap.size W W') : TokAt W' g j x := ⟨later' hb h.c0, later' hb h.c1, later' hb h.c2, later' hb h.c3, later' hb h.c4⟩
theorem own_tok {W : World} {base : Nat} {a : Option Addr} {n c : Nat} {T : List (Tk × Int)} (h : W.ownsRow base 77 5 (.slice a n c) T.length (flatT T)) {j : Nat} (hj : j < T.length) : ∃ g, a = some ⟨g, 0, none⟩ ∧ TokAt W g j T[j] := by
  rcases h.2 with ⟨e, e2⟩ | ⟨g, cap, cur, e, -⟩
  · omega
  · cases e
    obtain ⟨f0, f1, f2, f3, f4⟩ := flatT_get hj
    have k : ∀ i v, (flatT T)[i]? = some v → W.cell? ⟨g, i, none⟩ = some v := fun i v hv => by
      have := h.cells rfl i v hv
      rw [Addr.add_lit] at this
      simpa using this
    exact ⟨g, rfl, k _ _ f0, k _ _ f1, k _ _ f2, k _ _ f3, k _ _ f4⟩
theorem own_n {W : World} {base : Nat} {a : Option Addr} {n c : Nat} {T : List (Tk × Int)} (h : W.ownsRow base 77 5 (.slice a n c) T.length (flatT T)) : n = T.length := by
  rcases h.2 with ⟨e, e2⟩ | ⟨g, cap, cur, e, -⟩
  · cases e; exact e2.symm
  · cases e; rfl
theorem LexSaid.view {R : Res} {w w' : World} {e : Ending} (h : LexSaid R w e w') : ∃ (T : List (Tk × Int)) (a : Option Addr) (c : Nat) (er line : Int), e = .returned (.tuple #[.slice a T.length c, .int .i64 er, .int .i64 line]) ∧ w'.ownsRow w.heap.size 77 5 (.slice a T.length c) T.length (flatT T) ∧ Below w.heap.size w w' ∧ ((R = .good T ∧ er = 0 ∧ line = 0) ∨ (R = .bad er line ∧ T = [])) := by
  obtain ⟨hb, h⟩ := h
  cases R with
  | good T =>
    obtain ⟨a, n, c, he, hown⟩ := h
    obtain rfl := own_n hown
    exact ⟨T, a, c, 0, 0, he, hown, hb, Or.inl ⟨rfl, rfl, rfl⟩⟩
  | bad er line => exact ⟨[], none, 0, er, line, h, World.ownsRow_nil _ _ _ _, hb, Or.inr ⟨rfl, rfl⟩⟩
abbrev Nm := List UInt8
abbrev Tok := Tk × Int
abbrev Sh := Int × Nm
def shapeT (y : Tk) : Sh := if y.k = 5 ∨ y.k = 6 then (y.k, y.t) else (y.k, [])
def shapeL : List Tok → Sh
  | [] => (0, [])
  | x :: _ => shapeT x.1
def sName : Sh := (1, [])
def sCon : Sh := (2, [])
def sNum : Sh := (3, [])
def sSign : Sh := (4, [])
def sBack : Sh := (7, [])
def sData : Sh := (5, [100, 97, 116, 97])
def sLet : Sh := (5, [108, 101, 116])
def sIn : Sh := (5, [105, 110])
def sCase : Sh := (5, [99, 97, 115, 101])
def sOf : Sh := (5, [111, 102])
def sOpen : Sh := (6, [40])
def sShut : Sh := (6, [41])
def sCurl : Sh := (6, [123])
def sLruc : Sh := (6, [125])
def sSemi : Sh := (6, [59])
def sEq : Sh := (6, [61])
def sArrow : Sh := (6, [45, 62])
def sLam : Sh := (6, [92])
inductive Ex where
  | mk (kind : Int) (name : Nm) (f : Bool) (x : Int) (params : List Nm) (kids : List Ex) (binds : List (Nm × List Nm × Ex)) (alts : List (Int × Nm × Bool × Int × List Nm × Ex))
abbrev Bnd := Nm × List Nm × Ex
abbrev Alt := Int × Nm × Bool × Int × List Nm × Ex
abbrev Md := List (Nm × Int) × List Bnd
def Ex.leaf (kind : Int) (name : Nm) : Ex := .mk kind name false 0 [] [] [] []
def Ex.num (f : Bool) (x : Int) : Ex := .mk 3 [] f x [] [] [] []
def Ex.withKids : Ex → List Ex → Ex
  | .mk k n f x p _ b a, ks => .mk k n f x p ks b a
inductive Out (α : Type) where
  | ok (a : α) (last : Int) (rest : List Tok)
  | bad (e line : Int)
def Out.bind {α β : Type} (o : Out α) (f : α → Int → List Tok → Out β) : Out β :=
  match o with
  | .ok a l r => f a l r
  | .bad e l => .bad e l
abbrev Par (α : Type) := Int → List Tok → Out α
def refuseO {α : Type} (e : Int) : Par α := fun last rest =>
  match rest with
  | [] => .bad 17 last
  | x :: _ => .bad e x.2
def takeO : Par Tok := fun last rest =>
  match rest with
  | [] => .bad 17 last
  | x :: r => .ok x x.2 r
def wantO (s : Sh) : Par Tok := fun last rest => if shapeL rest = s then takeO last rest else refuseO 3 last rest
def namesO : Int → List Tok → List Nm → List Nm × Int × List Tok
  | last, [], acc => (acc, last, [])
  | last, x :: r, acc => if shapeT x.1 = sName then namesO x.2 r (acc ++ [x.1.t]) else (acc, last, x :: r)
def bindO (ex : Par Ex) : Par Bnd := fun last rest =>
  (wantO sName last rest).bind fun t l r =>
    (wantO sEq (namesO l r []).2.1 (namesO l r []).2.2).bind fun _ l2 r2 =>
      (ex l2 r2).bind fun b l3 r3 => .ok (t.1.t, (namesO l r []).1, b) l3 r3
def moreO {α : Type} (item : Par α) : Nat → List α → Par (List α)
  | 0, acc => fun last rest => .ok acc last rest
  | n + 1, acc => fun last rest =>
    if shapeL rest = sSemi then
      (takeO last rest).bind fun _ l r => (item l r).bind fun a l2 r2 => moreO item n (acc ++ [a]) l2 r2
    else .ok acc last rest
def someO {α : Type} (item : Par α) : Par (List α) := fun last rest =>
  (item last rest).bind fun a l r => moreO item (r.length + 1) [a] l r
def atomShapes : List Sh := [sName, sCon, sNum, sBack, sOpen]
def exprShapes : List Sh := [sLet, sCase, sLam, sName, sCon, sNum, sBack, sOpen]
def innerO (ex : Par Ex) : Par Ex := fun last rest =>
  (wantO sOpen last rest).bind fun _ l r => (ex l r).bind fun x l2 r2 => (wantO sShut l2 r2).bind fun _ l3 r3 => .ok x l3 r3
def atomO (ex : Par Ex) : Par Ex := fun last rest =>
  if shapeL rest = sName then (takeO last rest).bind fun t l r => .ok (.leaf 1 t.1.t) l r
  else if shapeL rest = sCon then (takeO last rest).bind fun t l r => .ok (.leaf 2 t.1.t) l r
  else if shapeL rest = sNum then (takeO last rest).bind fun t l r => .ok (.num t.1.f t.1.x) l r
  else if shapeL rest = sBack then (takeO last rest).bind fun t l r => .ok (.leaf 5 t.1.t) l r
  else if shapeL rest = sOpen then innerO ex last rest
  else refuseO 3 last rest
def atomsO (ex : Par Ex) : Nat → List Ex → Par (List Ex)
  | 0, acc => fun last rest => .ok acc last rest
  | n + 1, acc => fun last rest =>
    if shapeL rest ∈ atomShapes then (atomO ex last rest).bind fun a l r => atomsO ex n (acc ++ [a]) l r
    else .ok acc last rest
def rowE (kids : Bool) (first : Ex) (others : List Ex) : Ex :=
  if kids = true then first.withKids others else if others = [] then first else .mk 4 [] false 0 [] (first :: others) [] []
def rowO (ex : Par Ex) : Par Ex := fun last rest =>
  (atomO ex last rest).bind fun a l r => (atomsO ex (r.length + 1) [] l r).bind fun xs l2 r2 => .ok (rowE (decide (shapeL rest = sCon ∨ shapeL rest = sBack)) a xs) l2 r2
def rowsO (ex : Par Ex) : Par Ex := fun last rest =>
  (rowO ex last rest).bind fun a l r =>
    if shapeL r = sSign then
      (takeO l r).bind fun t l2 r2 => (rowO ex l2 r2).bind fun b l3 r3 => .ok (.mk 5 t.1.t false 0 [] [a, b] [] []) l3 r3
    else .ok a l r
def letO (ex : Par Ex) : Par Ex := fun last rest =>
  (wantO sLet last rest).bind fun _ l r => (someO (bindO ex) l r).bind fun bs l2 r2 => (wantO sIn l2 r2).bind fun _ l3 r3 =>
    (ex l3 r3).bind fun x l4 r4 => .ok (.mk 6 [] false 0 [] [x] bs []) l4 r4
def altO (ex : Par Ex) : Par Alt := fun last rest =>
  if shapeL rest = sCon then
    (takeO last rest).bind fun t l r =>
      (wantO sArrow (namesO l r []).2.1 (namesO l r []).2.2).bind fun _ l2 r2 => (ex l2 r2).bind fun x l3 r3 => .ok (0, t.1.t, false, 0, (namesO l r []).1, x) l3 r3
  else if shapeL rest = sNum then
    (takeO last rest).bind fun t l r => (wantO sArrow l r).bind fun _ l2 r2 => (ex l2 r2).bind fun x l3 r3 => .ok (1, [], t.1.f, t.1.x, [], x) l3 r3
  else
    (wantO sName last rest).bind fun t l r => (wantO sArrow l r).bind fun _ l2 r2 => (ex l2 r2).bind fun x l3 r3 => .ok (2, t.1.t, false, 0, [], x) l3 r3
def caseO (ex : Par Ex) : Par Ex := fun last rest =>
  (wantO sCase last rest).bind fun _ l r => (ex l r).bind fun x l2 r2 => (wantO sOf l2 r2).bind fun _ l3 r3 => (wantO sCurl l3 r3).bind fun _ l4 r4 =>
    if shapeL r4 = sLruc then (wantO sLruc l4 r4).bind fun _ l5 r5 => .ok (.mk 7 [] false 0 [] [x] [] []) l5 r5
    else (someO (altO ex) l4 r4).bind fun xs l5 r5 => (wantO sLruc l5 r5).bind fun _ l6 r6 => .ok (.mk 7 [] false 0 [] [x] [] xs) l6 r6
def lamO (ex : Par Ex) : Par Ex := fun last rest =>
  (wantO sLam last rest).bind fun _ l r =>
    if shapeL r = sName then
      (wantO sArrow (namesO l r []).2.1 (namesO l r []).2.2).bind fun _ l2 r2 => (ex l2 r2).bind fun x l3 r3 => .ok (.mk 8 [] false 0 (namesO l r []).1 [x] [] []) l3 r3
    else refuseO 3 l r
def exprO : Nat → Nat → Par Ex
  | 0, _ => fun _ _ => .bad 0 0
  | n + 1, d => fun last rest =>
    if shapeL rest ∈ exprShapes then
      (if d = 200 then refuseO 12 last rest
       else if shapeL rest = sLet then letO (exprO n (d + 1)) last rest
       else if shapeL rest = sCase then caseO (exprO n (d + 1)) last rest
       else if shapeL rest = sLam then lamO (exprO n (d + 1)) last rest
       else rowsO (exprO n (d + 1)) last rest)
    else refuseO 3 last rest
def declsO : Nat → List (Nm × Int) → Par (List (Nm × Int))
  | 0, acc => fun last rest => .ok acc last rest
  | n + 1, acc => fun last rest =>
    if shapeL rest = sCon then
      (takeO last rest).bind fun t l r =>
        if shapeL r = sNum then
          (takeO l r).bind fun u l2 r2 => if u.1.f = true ∨ 24 < u.1.x then refuseO 1 l r else declsO n (acc ++ [(t.1.t, u.1.x)]) l2 r2
        else refuseO 3 l r
    else .ok acc last rest
def moduleO : Nat → List (Nm × Int) → List Bnd → Par Md
  | 0, cs, bs => fun last rest => .ok (cs, bs) last rest
  | n + 1, cs, bs => fun last rest =>
    if rest = [] then .ok (cs, bs) last rest
    else if shapeL rest = sData then
      (takeO last rest).bind fun _ l r => (declsO (r.length + 1) [] l r).bind fun ds l2 r2 => (wantO sSemi l2 r2).bind fun _ l3 r3 => moduleO n (cs ++ ds) bs l3 r3
    else
      (bindO (exprO (rest.length + 201) 0) last rest).bind fun b l2 r2 => (wantO sSemi l2 r2).bind fun _ l3 r3 => moduleO n cs (bs ++ [b]) l3 r3
def parseO (T : List Tok) : Out Md := moduleO (T.length + 1) [] [] 1 T
def Less {α : Type} (m : Nat) : Out α → Prop
  | .ok _ _ r => r.length ≤ m
  | .bad _ _ => True
def Shrinks {α : Type} (p : Par α) : Prop := ∀ last rest, Less rest.length (p last rest)
theorem Less.bind {α β : Type} {m : Nat} {o : Out α} {f : α → Int → List Tok → Out β} (h : Less m o) (hf : ∀ a l r, r.length ≤ m → Less m (f a l r)) : Less m (o.bind f) := by
  cases o with
  | ok a l r => exact hf a l r h
  | bad e l => trivial
theorem Less.mono {α : Type} {m n : Nat} {o : Out α} (h : Less m o) (hm : m ≤ n) : Less n o := by
  cases o with
  | ok a l r => exact Nt h hm
  | bad e l => trivial
def tx (l : Nm) : ByteArray := ⟨l.toArray⟩
theorem tx_list (l : Nm) : (tx l).data.toList = l := back_list l
theorem tx_inj {a b : Nm} (h : tx a = tx b) : a = b := by
  have := congrArg (fun s : ByteArray => s.data.toList) h
  simpa [tx_list] using this
theorem tx_toList (l : Nm) : (tx l).toList = l := by rw [ByteArray.toList_eq]; exact tx_list l
def vSh (s : Sh) : Value := .agg #[.int .i64 s.1, .string (tx s.2)]
def vTok (y : Tok) : Value := .agg #[.int .i64 y.1.k, .string (tx y.1.t), .bool y.1.f, .int .u64 y.1.x, .int .i64 y.2]
def ShAt (w : World) (g : Nat) (s : Sh) : Prop := w.cell? ⟨g, 0, none⟩ = some (.int .i64 s.1) ∧ w.cell? ⟨g, 1, none⟩ = some (.string (tx s.2))
theorem ShAt.later {w w' : World} {g : Nat} {s : Sh} (h : ShAt w g s) (hb : Below w.heap.size w w') : ShAt w' g s := ⟨later' hb h.1, later' hb h.2⟩
def ShSaid (s : Sh) (w : World) (e : Ending) (w' : World) : Prop := e = .returned (.agg #[.int .i64 s.1, .string (tx s.2)]) ∧ Below w.heap.size w w'
def TokIn (w : World) (g o : Nat) (y : Tok) : Prop := w.cell? ⟨g, o, none⟩ = some (.int .i64 y.1.k) ∧ w.cell? ⟨g, o + 1, none⟩ = some (.string (tx y.1.t)) ∧ w.cell? ⟨g, o + 2, none⟩ = some (.bool y.1.f) ∧ w.cell? ⟨g, o + 3, none⟩ = some (.int .u64 y.1.x) ∧ w.cell? ⟨g, o + 4, none⟩ = some (.int .i64 y.2)
def RestIn (w : World) (b : Nat) (v : Value) (rest : List Tok) : Prop :=
  ∃ a c, v = .slice a rest.length c ∧ rest.length ≤ c ∧ c ≤ maxLen ∧ (rest = [] ∨ ∃ g o, a = some ⟨g, o, none⟩ ∧ g < b ∧ ∀ i (h : i < rest.length), TokIn w g (o + i * 5) rest[i])
def ShB (w : World) (b g : Nat) (s : Sh) : Prop := ShAt w g s ∧ g ≠ b
theorem ShB.later {w w' : World} {b g : Nat} {s : Sh} (h : ShB w b g s) (hb : w.grownBy w' (some b)) : ShB w' b g s := ⟨⟨hb.cell h.1.1 (by simpa using h.2), hb.cell h.1.2 (by simpa using h.2)⟩, h.2⟩
structure Rdr (w : World) (b : Nat) (me ma : Nat) (last : Int) (rest : List Tok) (d : Nat) : Prop where
  c0 : ∃ v, w.cell? ⟨b, 0, none⟩ = some v ∧ RestIn w b v rest
  c1 : w.cell? ⟨b, 1, none⟩ = some (.int .i64 last)
  c2 : w.cell? ⟨b, 2, none⟩ = some (.int .i64 d)
  c3 : w.cell? ⟨b, 3, none⟩ = some (.map (some me))
  c4 : w.cell? ⟨b, 4, none⟩ = some (.map (some ma))
  z : ∀ j, w.frozen? ⟨b, j, none⟩ = false
theorem grown_of {w w' : World} {b : Nat} (h : Below w.heap.size w w') : w.grownBy w' (some b) := ⟨h.os, h.tape, h.output, h.size, fun k hk _ => h.block k hk⟩
theorem Gt {w w' w'' : World} {b : Nat} (h : w.grownBy w' (some b)) (h2 : w'.grownBy w'' (some b)) : w.grownBy w'' (some b) :=
  ⟨h2.os.trans h.os, h2.tape.trans h.tape, h2.output.trans h.output, Nt h.size h2.size, fun k hk hne => (h2.block k (Nat.lt_of_lt_of_le hk h.size) hne).trans (h.block k hk hne)⟩
theorem TokIn.later {w w' : World} {g o : Nat} {y : Tok} (h : TokIn w g o y) {b : Nat} (hg : g ≠ b) (hb : w.grownBy w' (some b)) : TokIn w' g o y := by
  have hn : ∀ {j}, some (⟨g, j, none⟩ : Addr).block ≠ some b := by simpa using hg
  exact ⟨hb.cell h.1 hn, hb.cell h.2.1 hn, hb.cell h.2.2.1 hn, hb.cell h.2.2.2.1 hn, hb.cell h.2.2.2.2 hn⟩
theorem RestIn.later {w w' : World} {b : Nat} {v : Value} {rest : List Tok} (h : RestIn w b v rest) (hb : w.grownBy w' (some b)) : RestIn w' b v rest := by
  obtain ⟨a, c, e, h1, h2, h3⟩ := h
  refine ⟨a, c, e, h1, h2, ?_⟩
  rcases h3 with h3 | ⟨g, o, e2, hg, ht⟩
  · exact Or.inl h3
  · exact Or.inr ⟨g, o, e2, hg, fun i hi => (ht i hi).later (Nat.ne_of_lt hg) hb⟩
theorem Rdr.later {w w' : World} {b me ma : Nat} {last : Int} {rest : List Tok} {d : Nat} (h : Rdr w b me ma last rest d) (hb : Below w.heap.size w w') : Rdr w' b me ma last rest d := by
  obtain ⟨v, hv, hr⟩ := h.c0
  have lt := Bl hv
  exact ⟨⟨v, later' hb hv, hr.later (grown_of hb)⟩, later' hb h.c1, later' hb h.c2, later' hb h.c3, later' hb h.c4, fun j => (World.frozen?_of_block (w := w) (hb.block _ (by simpa using lt))).trans (h.z j)⟩
def tokO : List Tok → Tok
  | [] => (⟨0, [], false, 0⟩, 0)
  | x :: _ => x
def TokSaid (y : Tok) (w : World) (e : Ending) (w' : World) : Prop := e = .returned (.agg #[.int .i64 y.1.k, .string (tx y.1.t), .bool y.1.f, .int .u64 y.1.x, .int .i64 y.2]) ∧ Below w.heap.size w w'
def IsSaid (v : Bool) (w : World) (e : Ending) (w' : World) : Prop := e = .returned (.bool v) ∧ Below w.heap.size w w'
theorem IsSaid.mk {u v : Bool} {w w' : World} (h : u = v) (hb : Below w.heap.size w w') : IsSaid v w (.returned (.bool u)) w' := ⟨by rw [h], hb⟩
theorem set_grown (W : World) (b o : Nat) (v : Value) : W.grownBy (W.setCell ⟨b, o, none⟩ v) (some b) :=
  ⟨rfl, rfl, rfl, by simp [World.setCell], fun k _ hne => Below.heap_setCell _ _ _ _ (fun e => hne (by simp at e; rw [e]))⟩
theorem at_oth (W : World) (b i j : Nat) (v : Value) (h : i ≠ j) : (W.setCell ⟨b, i, none⟩ v).cell? ⟨b, j, none⟩ = W.cell? ⟨b, j, none⟩ := World.cell?_setCell_other _ _ _ _ (by first | (intro e; cases e; exact h rfl) | simp [h])
theorem at_far (W : World) (b c i j : Nat) (v : Value) (h : b ≠ c) : (W.setCell ⟨b, i, none⟩ v).cell? ⟨c, j, none⟩ = W.cell? ⟨c, j, none⟩ := World.cell?_setCell_other _ _ _ _ (by first | (intro e; cases e; exact h rfl) | simp [h])
theorem at_sam {W : World} {b i : Nat} {u : Value} (v : Value) (h : W.cell? ⟨b, i, none⟩ = some u) : (W.setCell ⟨b, i, none⟩ v).cell? ⟨b, i, none⟩ = some v := World.cell?_setCell_same _ _ _ h
theorem Rdr.rest {W : World} {b me ma : Nat} {last : Int} {rest : List Tok} {d : Nat} (h : Rdr W b me ma last rest d) {v : Value} {r : List Tok} (hr : RestIn W b v r) : Rdr (W.setCell ⟨b, 0, none⟩ v) b me ma last r d := by
  obtain ⟨u, hu, -⟩ := h.c0
  exact ⟨⟨v, at_sam v hu, hr.later (set_grown ..)⟩, (at_oth _ _ _ _ _ (by decide)).trans h.c1, (at_oth _ _ _ _ _ (by decide)).trans h.c2, (at_oth _ _ _ _ _ (by decide)).trans h.c3, (at_oth _ _ _ _ _ (by decide)).trans h.c4, fun j => by simp [h.z j]⟩
theorem Rdr.line {W : World} {b me ma : Nat} {last : Int} {rest : List Tok} {d : Nat} (h : Rdr W b me ma last rest d) (l : Int) : Rdr (W.setCell ⟨b, 1, none⟩ (.int .i64 l)) b me ma l rest d := by
  obtain ⟨u, hu, hr⟩ := h.c0
  exact ⟨⟨u, (at_oth _ _ _ _ _ (by decide)).trans hu, hr.later (set_grown ..)⟩, at_sam _ h.c1, (at_oth _ _ _ _ _ (by decide)).trans h.c2, (at_oth _ _ _ _ _ (by decide)).trans h.c3, (at_oth _ _ _ _ _ (by decide)).trans h.c4, fun j => by simp [h.z j]⟩
theorem grown_new {w W : World} {b p i : Nat} (h : w.grownBy W (some b)) (hp : w.heap.size ≤ p) (v : Value) : w.grownBy (W.setCell ⟨p, i, none⟩ v) (some b) :=
  ⟨h.os, h.tape, h.output, Nt h.size (by simp [World.setCell]), fun k hk hne => (Below.heap_setCell _ _ _ _ (by simp only; omega)).trans (h.block k hk hne)⟩
theorem RestIn.over {W : World} {b p i : Nat} {v u : Value} {r : List Tok} (h : RestIn W b v r) (hp : b < p) : RestIn (W.setCell ⟨p, i, none⟩ u) b v r := by
  obtain ⟨a, c, e, h1, h2, h3⟩ := h
  refine ⟨a, c, e, h1, h2, ?_⟩
  rcases h3 with h3 | ⟨g, o, e2, hg, ht⟩
  · exact Or.inl h3
  · refine Or.inr ⟨g, o, e2, hg, fun j hj => ?_⟩
    obtain ⟨t0, t1, t2, t3, t4⟩ := ht j hj
    have hn : p ≠ g := by omega
    exact ⟨(at_far _ _ _ _ _ _ hn).trans t0, (at_far _ _ _ _ _ _ hn).trans t1, (at_far _ _ _ _ _ _ hn).trans t2, (at_far _ _ _ _ _ _ hn).trans t3, (at_far _ _ _ _ _ _ hn).trans t4⟩
theorem Rdr.over {W : World} {b me ma : Nat} {last : Int} {rest : List Tok} {d : Nat} (h : Rdr W b me ma last rest d) {p i : Nat} (hp : b < p) (u : Value) : Rdr (W.setCell ⟨p, i, none⟩ u) b me ma last rest d := by
  obtain ⟨v, hv, hr⟩ := h.c0
  have hn : p ≠ b := by omega
  exact ⟨⟨v, (at_far _ _ _ _ _ _ hn).trans hv, hr.over hp⟩, (at_far _ _ _ _ _ _ hn).trans h.c1, (at_far _ _ _ _ _ _ hn).trans h.c2, (at_far _ _ _ _ _ _ hn).trans h.c3, (at_far _ _ _ _ _ _ hn).trans h.c4, fun j => by simp [h.z j]⟩
def TookSaid (b me ma : Nat) (y : Tok) (rest : List Tok) (d : Nat) (w : World) (e : Ending) (w' : World) : Prop :=
  e = .returned (.agg #[.int .i64 y.1.k, .string (tx y.1.t), .bool y.1.f, .int .u64 y.1.x, .int .i64 y.2]) ∧ Rdr w' b me ma y.2 rest d ∧ w.grownBy w' (some b)
def refE (er last : Int) : List Tok → Int × Int
  | [] => (17, last)
  | x :: _ => (er, x.2)
theorem refuseO_eq {α : Type} (er last : Int) (rest : List Tok) : (refuseO er last rest : Out α) = .bad (refE er last rest).1 (refE er last rest).2 := by
  cases rest <;> rfl
theorem tok_field (k : Int) (s : ByteArray) (f : Bool) (x l : Int) (W : World) :
    (Instr.field 77 (.agg #[.int .i64 k, .string s, .bool f, .int .u64 x, .int .i64 l]) 1).run Try.prog W = .ok (.string s) W ∧
    (Instr.field 77 (.agg #[.int .i64 k, .string s, .bool f, .int .u64 x, .int .i64 l]) 2).run Try.prog W = .ok (.agg #[.bool f, .int .u64 x]) W ∧
    (Instr.field 77 (.agg #[.int .i64 k, .string s, .bool f, .int .u64 x, .int .i64 l]) 3).run Try.prog W = .ok (.int .i64 l) W := by
  obtain ⟨fs, h, h1, h2, h3⟩ : ∃ fs, Try.prog.underlying 77 = some (.struct fs) ∧ (fs[1]?.map fun f => (f.type, f.offset)) = some (9, 1) ∧ (fs[2]?.map fun f => (f.type, f.offset)) = some (30, 2) ∧ (fs[3]?.map fun f => (f.type, f.offset)) = some (3, 4) := ⟨_, rfl, by kernel_rfl, by kernel_rfl, by kernel_rfl⟩
  obtain ⟨f1, e1, g1⟩ := Option.map_eq_some_iff.1 h1
  obtain ⟨f2, e2, g2⟩ := Option.map_eq_some_iff.1 h2
  obtain ⟨f3, e3, g3⟩ := Option.map_eq_some_iff.1 h3
  simp only [Prod.mk.injEq] at g1 g2 g3
  refine ⟨?_, ?_, ?_⟩
  · simp [Instr.field, run_underlying h, e1, g1.1, g1.2, part, asAgg, Try.isAgg9, go_sem]
  · simp [Instr.field, run_underlying h, e2, g2.1, g2.2, part, asAgg, Try.isAgg30, Try.sizeOf30, go_sem]
  · simp [Instr.field, run_underlying h, e3, g3.1, g3.2, part, asAgg, Try.isAgg3, go_sem]
theorem tok_field1 (k : Int) (s : ByteArray) (f : Bool) (x l : Int) (W : World) : (Instr.field 77 (.agg #[.int .i64 k, .string s, .bool f, .int .u64 x, .int .i64 l]) 1).run Try.prog W = .ok (.string s) W := (tok_field k s f x l W).1
theorem tok_field2 (k : Int) (s : ByteArray) (f : Bool) (x l : Int) (W : World) : (Instr.field 77 (.agg #[.int .i64 k, .string s, .bool f, .int .u64 x, .int .i64 l]) 2).run Try.prog W = .ok (.agg #[.bool f, .int .u64 x]) W := (tok_field k s f x l W).2.1
def TokV (y : Tok) (e : Ending) (_ : World) : Prop := e = .returned (.agg #[.int .i64 y.1.k, .string (tx y.1.t), .bool y.1.f, .int .u64 y.1.x, .int .i64 y.2])
theorem take_of {rest : List Tok} {s : Sh} (h : shapeL rest = s) (hs : s.1 ≠ 0) : ∃ y r, rest = y :: r := by
  cases rest with
  | nil =>
    exfalso
    apply hs
    rw [← h]
    rfl
  | cons y r => exact ⟨y, r, rfl⟩
theorem Rdr.over5 {W : World} {b me ma : Nat} {last : Int} {rest : List Tok} {d : Nat} (h : Rdr W b me ma last rest d) {p : Nat} (hp : b < p) (v0 v1 v2 v3 v4 : Value) : Rdr (((((W.setCell ⟨p, 0, none⟩ v0).setCell ⟨p, 1, none⟩ v1).setCell ⟨p, 2, none⟩ v2).setCell ⟨p, 3, none⟩ v3).setCell ⟨p, 4, none⟩ v4) b me ma last rest d := ((((h.over hp _).over hp _).over hp _).over hp _).over hp _
theorem grown_new5 {w W : World} {b p : Nat} (h : w.grownBy W (some b)) (hp : w.heap.size ≤ p) (v0 v1 v2 v3 v4 : Value) : w.grownBy (((((W.setCell ⟨p, 0, none⟩ v0).setCell ⟨p, 1, none⟩ v1).setCell ⟨p, 2, none⟩ v2).setCell ⟨p, 3, none⟩ v3).setCell ⟨p, 4, none⟩ v4) (some b) := grown_new (grown_new (grown_new (grown_new (grown_new h hp _) hp _) hp _) hp _) hp _
theorem own_kept {w w' : World} {base : Nat} {e : TypeId} {size : Nat} {v : Value} {n : Nat} {xs : List Value} (h : w.ownsRow base e size v n xs) {b : Nat} (hb : w.grownBy w' (some b)) (hn : v.ownBlock ≠ some b) : w'.ownsRow base e size v n xs := by
  obtain ⟨h0, h | ⟨g, cap, cur, rfl, h2, h3, h4⟩⟩ := h
  · exact ⟨h0, Or.inl h⟩
  · refine ⟨h0, Or.inr ⟨g, cap, cur, rfl, h2, ?_, h4⟩⟩
    have hg : g < w.heap.size := by
      rcases Nat.lt_or_ge g w.heap.size with h | h
      · exact h
      · rw [Array.getElem?_eq_none h] at h3; cases h3
    rw [hb.block g hg (fun e => hn (by rw [← e]; rfl))]
    exact h3
theorem RestIn.past {w w' : World} {b q : Nat} {v : Value} {rest : List Tok} (h : RestIn w b v rest) (hb : w.grownBy w' (some q)) (hq : b < q) : RestIn w' b v rest := by
  obtain ⟨a, c, e, h1, h2, h3⟩ := h
  refine ⟨a, c, e, h1, h2, ?_⟩
  rcases h3 with h3 | ⟨g, o, e2, hg, ht⟩
  · exact Or.inl h3
  · exact Or.inr ⟨g, o, e2, hg, fun i hi => (ht i hi).later (by omega) hb⟩
theorem Rdr.past {w w' : World} {b me ma q : Nat} {last : Int} {rest : List Tok} {d : Nat} (h : Rdr w b me ma last rest d) (hb : w.grownBy w' (some q)) (hq : b < q) : Rdr w' b me ma last rest d := by
  obtain ⟨v, hv, hr⟩ := h.c0
  have lt := Bl hv
  have hn : ∀ {j}, some (⟨b, j, none⟩ : Addr).block ≠ some q := by intro j e; simp at e; omega
  exact ⟨⟨v, hb.cell hv hn, hr.past hb hq⟩, hb.cell h.c1 hn, hb.cell h.c2 hn, hb.cell h.c3 hn, hb.cell h.c4 hn, fun j => (World.frozen?_of_block (w := w) (hb.block _ (by simpa using lt) (by simp; omega))).trans (h.z j)⟩
theorem grown_some {w w' : World} {o : Option Nat} {b : Nat} (hb : w.grownBy w' o) (ho : ∀ g, o = some g → b < g) : ∃ q, b < q ∧ w.grownBy w' (some q) := by
  cases o with
  | some q => exact ⟨q, ho q rfl, hb⟩
  | none => exact ⟨b + 1, by omega, hb.os, hb.tape, hb.output, hb.size, fun k hk _ => hb.block k hk (by simp)⟩
theorem grown_past {w w' w'' : World} {o : Option Nat} {b : Nat} (h : w.grownBy w' (some b)) (h2 : w'.grownBy w'' o) (ho : ∀ g, o = some g → w.heap.size ≤ g) : w.grownBy w'' (some b) :=
  ⟨h2.os.trans h.os, h2.tape.trans h.tape, h2.output.trans h.output, Nt h.size h2.size, fun k hk hne => (h2.block k (Nat.lt_of_lt_of_le hk h.size) (fun e => by have := ho k e.symm; omega)).trans (h.block k hk hne)⟩
def lenOf : Value → Nat
  | .slice _ n _ => n
  | _ => 0
theorem Try.info_text : (Try.prog.info? 9).map (fun i => (i.zero, i.size, i.bytes)) = some (some (.string ⟨#[]⟩), 1, 16) := by kernel_rfl
theorem own_shape {w : World} {base : Nat} {e : TypeId} {size : Nat} {v : Value} {n : Nat} {xs : List Value} (h : w.ownsRow base e size v n xs) : ∃ a c, v = .slice a n c ∧ ∀ g, v.ownBlock = some g → base ≤ g := by
  obtain ⟨h0, ⟨rfl, rfl⟩ | ⟨g, cap, cur, rfl, h2, h3⟩⟩ := h
  · exact ⟨_, _, rfl, fun g hg => by cases hg⟩
  · exact ⟨_, _, rfl, fun g' hg => by cases hg; exact h2⟩
def NamesSaid (b me ma d : Nat) (o : List Nm × Int × List Tok) (w : World) (e : Ending) (w' : World) : Prop :=
  ∃ v, e = .returned v ∧ Rdr w' b me ma o.2.1 o.2.2 d ∧ w.grownBy w' (some b) ∧ w'.ownsRow w.heap.size 9 1 v o.1.length (o.1.map fun x => .string (tx x))
def entries (es : List (Sh × Value)) : List MapEntry := es.zipIdx.map fun p => ⟨.agg #[.int .i64 p.1.1.1, .string (tx p.1.1.2)], p.1.2, p.2⟩
def lookSh (es : List (Sh × Value)) (s : Sh) : Option Value := (es.find? fun p => decide (p.1 = s)).map (·.2)
def KF (w : World) (m : Nat) (es : List (Sh × Value)) : Prop := ∃ es' c, w.heap[m]? = some (.map (entries es').toArray c) ∧ ∀ s, lookSh es' s = lookSh es s
theorem KF.later {w w' : World} {m b : Nat} {es : List (Sh × Value)} (h : KF w m es) (hb : w.grownBy w' (some b)) (hm : m ≠ b) : KF w' m es := by
  obtain ⟨es', c, h, hl⟩ := h
  have lt : m < w.heap.size := by
    rcases Nat.lt_or_ge m w.heap.size with h' | h'
    · exact h'
    · rw [Array.getElem?_eq_none h'] at h; cases h
  exact ⟨es', c, (hb.block m lt (by simpa using hm)).trans h, hl⟩
theorem KF.below {w w' : World} {m : Nat} {es : List (Sh × Value)} (h : KF w m es) (hb : Below w.heap.size w w') : KF w' m es := h.later (b := m + 1) (grown_of hb) (by omega)
end Go.Proofs.Ytdjcdecbmeickaa
