import Derived.Deep.QuietTactic
import Derived.BigQuiet
import Derived.Deep.RegionHeld3
import Derived.Shelf.Strings.Builder1
import Derived.Shelf.Strings.OnBuilder
import Derived.Shelf.Abstract
import Derived.Test.YthehgcmhcioffaaGreatDoorMg1
import Derived.Test.YthehgcmhcioffaaGreatDoorMg2
namespace Go.Proofs.YthehgcmhcioffaaGreatDoor
set_option maxHeartbeats 64000000
set_option maxRecDepth 100000
open Go.RowKit
open Go.Lib (NumEnd parseUintM parseUintB parseIntB decDigits itoa)
theorem hdB_dec (d : Nat) (h : d < 10) : hdB d = UInt8.ofNat (48 + d) := by
  have h : d = 0 ∨ d = 1 ∨ d = 2 ∨ d = 3 ∨ d = 4 ∨ d = 5 ∨ d = 6 ∨ d = 7 ∨ d = 8 ∨ d = 9 := by omega
  rcases h with h | h | h | h | h | h | h | h | h | h <;> subst h <;> decide
theorem digs_dec (n : Nat) : digs 10 n = decDigits n := by
  induction n using Nat.strongRecOn with
  | _ n ih =>
    rw [digs]
    by_cases h : n < 10
    · rw [dif_pos (Or.inl h), decDigits, dif_pos h, Nat.mod_eq_of_lt h, hdB_dec n h]
    · rw [dif_neg (by omega), decDigits, dif_neg h, ih (n / 10) (by omega), hdB_dec _ (Nat.mod_lt _ (by decide))]
theorem hexK_snoc (u : Nat) : ∀ k, hexK u (k + 1) = hexK (u / 16) k ++ [hdB (u % 16)] := by
  intro k
  induction k generalizing u with
  | zero => simp [hexK, List.range_succ]
  | succ k ih =>
    rw [hexK_succ, ih, hexK_succ (u / 16) k, List.cons_append]
    congr 1
    rw [Nat.div_div_eq_div_mul, Nat.pow_succ 16 (k + 1), Nat.mul_comm 16]
theorem digs_hex : ∀ (k n : Nat), n < 16 ^ (k + 1) → 1 ≤ (digs 16 n).length ∧ (digs 16 n).length ≤ k + 1 ∧ List.replicate (k + 1 - (digs 16 n).length) 48 ++ digs 16 n = hexK n k := by
  intro k
  induction k with
  | zero =>
    intro n h
    rw [digs, dif_pos (Or.inl (by simpa using h))]
    refine ⟨by simp, by simp, ?_⟩
    simp [hexK, List.range_succ]
  | succ k ih =>
    intro n h
    by_cases hn : n < 16
    · rw [digs, dif_pos (Or.inl hn)]
      refine ⟨by simp, by simp, ?_⟩
      have h0 := hexK_pad n 0 (by simpa using hn) (k + 1)
      rw [Nat.zero_add] at h0
      rw [h0]
      simp [hexK, List.range_succ]
    · rw [digs, dif_neg (by omega)]
      obtain ⟨h1, h2, h3⟩ := ih (n / 16) (by rw [Nat.pow_succ] at h; omega)
      refine ⟨by simp, by simp; omega, ?_⟩
      rw [hexK_snoc, ← h3, List.length_append, List.length_singleton, ← List.append_assoc]
      congr 2
      congr 1
      omega
theorem flt_text (b : Nat) (hb : b < 18446744073709551616) : (digs 16 b).length ≤ 16 ∧ 48 :: 102 :: (List.replicate (16 - (digs 16 b).length) 48 ++ digs 16 b) = fltL b := by
  obtain ⟨_, h2, h3⟩ := digs_hex 15 b hb
  exact ⟨h2, by rw [fltL_eq b hb, ← h3]⟩
theorem int_text_up (x : Nat) (h : x < 9223372036854775808) : digs 10 x = itoa (wrap64 (x : Int)) := by
  rw [digs_dec]
  have e : wrap64 (x : Int) = x := by unfold wrap64; omega
  rw [e]
  unfold itoa
  rw [if_neg (by omega), show ((x : Int)).toNat = x by omega]
theorem int_text_down (x : Nat) (h : 9223372036854775808 ≤ x) (h1 : x < 18446744073709551616) : 45 :: digs 10 (18446744073709551616 - x) = itoa (wrap64 (x : Int)) := by
  rw [digs_dec]
  have e : wrap64 (x : Int) = (x : Int) - 18446744073709551616 := by unfold wrap64; omega
  rw [e]
  unfold itoa
  rw [if_pos (by omega), show ((x : Int) - 18446744073709551616).natAbs = 18446744073709551616 - x by omega]
theorem parse_over (M : Nat) (hM : M ≤ 18446744073709551615) (d : List UInt8) (h : ∀ c ∈ d, isDig c = true) : parseUintM M 0 d = .ok (decN 0 d) ∨ (parseUintM M 0 d = .range ∧ M < decN 0 d) := by
  rcases Nat.lt_or_ge M (decN 0 d) with h1 | h1
  · have hpl := parse_plain M d 0 h
    cases hp : parseUintM M 0 d with
    | range => exact Or.inr ⟨rfl, h1⟩
    | ok u => exact Or.inl (by rw [(parse_ok M d 0 u hp).2])
    | _ => rw [hp] at hpl; exact hpl.elim
  · exact Or.inl (parse_digits M hM d 0 h h1)
theorem mag_minus (d : List UInt8) (h : Mag d) : intF (45 :: d) = true ∧ Lib.hasPrefix (45 :: d) [48, 102] = false ∧ parseIntB 64 (45 :: d) = (if decN 0 d ≤ 9223372036854775808 then .ok (-(decN 0 d : Int)) else .range) := by
  refine ⟨(intF_cases _).2 (Or.inr (Or.inl ⟨d, rfl, h⟩)), rfl, ?_⟩
  rw [pi_minus d h]
  rcases parse_over 18446744073709551615 Nr d h.2.2 with e | ⟨e, hlt⟩
  · rw [e]
    simp only [Lib.signedC]
    by_cases hc : decN 0 d ≤ 9223372036854775808
    · rw [if_pos hc, if_neg (by omega)]
    · rw [if_neg hc, if_pos (by omega)]
  · rw [e, if_neg (by omega)]; rfl
theorem mag_plain (d : List UInt8) (h : Mag d) : intF d = true ∧ Lib.hasPrefix d [48, 102] = false ∧ parseIntB 64 d = (if decN 0 d < 9223372036854775808 then .ok (decN 0 d : Int) else .range) := by
  have hpre : Lib.hasPrefix d [48, 102] = false := by
    cases d with
    | nil => exact absurd rfl h.1
    | cons c r =>
      have hc : c ≠ 48 := fun e => h.2.1 (by rw [e]; rfl)
      have h48 : (48 == c) = false := by simpa using Ne.symm hc
      show ((48 == c) && List.isPrefixOf [102] r) = false
      rw [h48]; rfl
  refine ⟨(intF_cases _).2 (Or.inr (Or.inr h)), hpre, ?_⟩
  rw [pi_plain d h]
  rcases parse_over 18446744073709551615 Nr d h.2.2 with e | ⟨e, hlt⟩
  · rw [e]
    simp only [Lib.signlessC]
    by_cases hc : decN 0 d < 9223372036854775808
    · rw [if_pos hc, if_neg (by omega)]
    · rw [if_neg hc, if_pos (by omega)]
  · rw [e, if_neg (by omega)]; rfl
end Go.Proofs.YthehgcmhcioffaaGreatDoor
namespace Go.Proofs.YthehgcmhcioffaaGreatDoor
set_option maxHeartbeats 64000000
set_option maxRecDepth 100000
open Go.RowKit
def PadI (t s : ByteArray) : Prop := ∃ j : Nat, s = ⟨(List.replicate j 48 ++ t.data.toList).toArray⟩ ∧ s.size = j + t.size ∧ s.size ≤ 16
theorem PadI.first (t : ByteArray) (h : t.size ≤ 16) : PadI t t := ⟨0, by simp, by simp, h⟩
end Go.Proofs.YthehgcmhcioffaaGreatDoor
namespace Go.Proofs.YthehgcmhcioffaaGreatDoor
set_option maxHeartbeats 64000000
set_option maxRecDepth 100000
open Go.RowKit Go.Lib
theorem hd_in : ∀ d : Fin 16, inRun (hdB d.val) = true ∧ (d.val < 10 → dgB (hdB d.val) = true) := by decide +kernel
theorem digs_in (b : Nat) (h2 : 2 ≤ b) (h16 : b ≤ 16) (n : Nat) : (∀ c, c ∈ digs b n → inRun c = true ∧ (b ≤ 10 → dgB c = true)) ∧ digs b n ≠ [] := by
  induction n using Nat.strongRecOn with
  | ind n ih =>
    rw [digs]
    have hl : n % b < b := Nat.mod_lt _ (by omega)
    have hh := hd_in ⟨n % b, by omega⟩
    split
    · refine ⟨fun c hc => ?_, by simp⟩
      rw [List.mem_singleton] at hc
      subst hc
      exact ⟨hh.1, fun h10 => hh.2 (by show n % b < 10; omega)⟩
    · refine ⟨fun c hc => ?_, by simp⟩
      rcases List.mem_append.1 hc with hc | hc
      · exact (ih (n / b) (Nat.div_lt_self (by omega) (by omega))).1 c hc
      · rw [List.mem_singleton] at hc
        subst hc
        exact ⟨hh.1, fun h10 => hh.2 (by show n % b < 10; omega)⟩
def srcL (f : Bool) (x : Int) : List UInt8 := if (printL f x).head? = some 45 then 35 :: printL f x else printL f x
theorem print_form (f : Bool) (x : Int) (h0 : 0 ≤ x) (h1 : x < 18446744073709551616) :
    (∃ c r, printL f x = c :: r ∧ dgB c = true ∧ ∀ d, d ∈ c :: r → inRun d = true) ∨ (∃ r, printL f x = 45 :: r ∧ r ≠ [] ∧ ∀ d, d ∈ r → inRun d = true) := by
  obtain ⟨n, rfl⟩ : ∃ n : Nat, x = n := ⟨x.toNat, by omega⟩
  cases f with
  | true =>
    left
    have ht := (flt_text n (by omega)).2
    have hp : printL true (n : Int) = fltL n := by simp [printL]
    rw [hp, ← ht]
    refine ⟨48, _, rfl, by decide, fun d hd => ?_⟩
    rcases List.mem_cons.1 hd with rfl | hd
    · decide
    rcases List.mem_cons.1 hd with rfl | hd
    · decide
    rcases List.mem_append.1 hd with hd | hd
    · rw [(List.mem_replicate.1 hd).2]; decide
    · exact ((digs_in 16 (by omega) (by omega) n).1 d hd).1
  | false =>
    have hp : printL false (n : Int) = itoa (wrap64 n) := by simp [printL]
    rw [hp]
    by_cases g : n < 9223372036854775808
    · left
      rw [← int_text_up n g]
      obtain ⟨hd, hne⟩ := digs_in 10 (by omega) (by omega) n
      cases hc : digs 10 n with
      | nil => exact absurd hc hne
      | cons c r =>
        rw [hc] at hd
        exact ⟨c, r, rfl, (hd c (List.mem_cons_self ..)).2 (by omega), fun d h => (hd d h).1⟩
    · right
      rw [← int_text_down n (by omega) (by omega)]
      obtain ⟨hd, hne⟩ := digs_in 10 (by omega) (by omega) (18446744073709551616 - n)
      exact ⟨_, rfl, hne, fun d h => (hd d h).1⟩
theorem src_len (f : Bool) (x : Int) (h0 : 0 ≤ x) (h1 : x < 18446744073709551616) : (srcL f x).length ≤ 1001 := by
  have := print_len f x h0 h1
  unfold srcL
  split
  · rw [List.length_cons]; omega
  · omega
def wordsL (f : List UInt8) (o : List (List UInt8)) : List UInt8 := f ++ o.flatMap (fun x => 32 :: x)
def joinL (sep : List UInt8) : List (List UInt8) → List UInt8
  | [] => []
  | a :: r => a ++ r.flatMap (fun x => sep ++ x)
def encL (x : List UInt8) : List UInt8 := 40 :: (x ++ [41])
def nTx (f : Bool) (u : Int) : List UInt8 := srcL f u
def letterB (b : UInt8) : Bool := (65 ≤ b && b ≤ 90) || (97 ≤ b && b ≤ 122)
def isLet (n : Nm) : Bool := n.all letterB
def bareE : Ex → Bool
  | .mk k _ _ _ _ ks _ _ => (k == 2 || k == 5) && ks.isEmpty
def kindE : Ex → Int
  | .mk k _ _ _ _ _ _ _ => k
def plainE (e : Ex) : Bool := kindE e == 1 || kindE e == 3 || bareE e
def headL (ks : List Ex) (l : List (List UInt8)) : List (List UInt8) :=
  match ks, l with
  | e :: _, a :: r => (if bareE e then encL a else a) :: r
  | _, l => l
mutual
def shE : Ex → List UInt8
  | .mk k n f x ps ks bs al =>
    if k = 1 then n
    else if k = 2 then wordsL n (atomsL ks)
    else if k = 3 then nTx f x
    else if k = 4 then joinL [32] (headL ks (atomsL ks))
    else if k = 5 then (if isLet n then wordsL n (atomsL ks) else joinL (32 :: (n ++ [32])) (atomsL ks))
    else if k = 6 then wordsL [108, 101, 116] [joinL [59, 32] (bindsT bs), [105, 110], innT ks]
    else if k = 7 then wordsL [99, 97, 115, 101] [innT ks, [111, 102], 123 :: (joinL [59, 32] (altsT al) ++ [125])]
    else if k = 8 then wordsL (92 :: joinL [32] ps) [[45, 62], innT ks]
    else []
def atomsL : List Ex → List (List UInt8)
  | [] => []
  | e :: r => (if plainE e then shE e else encL (shE e)) :: atomsL r
def innT : List Ex → List UInt8
  | [] => []
  | e :: _ => shE e
def bindsT : List (Nm × List Nm × Ex) → List (List UInt8)
  | [] => []
  | (n, ps, e) :: r => wordsL (wordsL n ps) [[61], shE e] :: bindsT r
def altsT : List (Int × Nm × Bool × Int × List Nm × Ex) → List (List UInt8)
  | [] => []
  | (k, n, f, x, ns, e) :: r => wordsL (if k = 1 then nTx f x else wordsL n ns) [[45, 62], shE e] :: altsT r
end
def atomT (e : Ex) : List UInt8 := if plainE e then shE e else encL (shE e)
def bindT (b : Bnd) : List UInt8 := wordsL (wordsL b.1 b.2.1) [[61], shE b.2.2]
def altT (a : Alt) : List UInt8 := wordsL (if a.1 = 1 then nTx a.2.2.1 a.2.2.2.1 else wordsL a.2.1 a.2.2.2.2.1) [[45, 62], shE a.2.2.2.2.2]
theorem atomsL_map : ∀ l, atomsL l = l.map atomT
  | [] => by unfold atomsL; rfl
  | e :: r => by unfold atomsL; rw [atomsL_map r]; rfl
theorem bindsT_map : ∀ l, bindsT l = l.map bindT
  | [] => by unfold bindsT; rfl
  | (n, ps, e) :: r => by unfold bindsT; rw [bindsT_map r]; rfl
theorem altsT_map : ∀ l, altsT l = l.map altT
  | [] => by unfold altsT; rfl
  | (k, n, f, x, ns, e) :: r => by unfold altsT; rw [altsT_map r]; rfl
theorem shE_mk (k : Int) (n : Nm) (f : Bool) (x : Int) (ps : List Nm) (ks : List Ex) (bs : List Bnd) (al : List Alt) : shE (.mk k n f x ps ks bs al) =
    if k = 1 then n
    else if k = 2 then wordsL n (ks.map atomT)
    else if k = 3 then nTx f x
    else if k = 4 then joinL [32] (headL ks (ks.map atomT))
    else if k = 5 then (if isLet n then wordsL n (ks.map atomT) else joinL (32 :: (n ++ [32])) (ks.map atomT))
    else if k = 6 then wordsL [108, 101, 116] [joinL [59, 32] (bs.map bindT), [105, 110], innT ks]
    else if k = 7 then wordsL [99, 97, 115, 101] [innT ks, [111, 102], 123 :: (joinL [59, 32] (al.map altT) ++ [125])]
    else if k = 8 then wordsL (92 :: joinL [32] ps) [[45, 62], innT ks]
    else [] := by
  conv => lhs; unfold shE
  rw [atomsL_map, bindsT_map, altsT_map]
def declT (d : Nm × Int) : List UInt8 := wordsL d.1 [Lib.itoa d.2]
def lineL (x : List UInt8) : List UInt8 := x ++ [59, 10]
def shM (m : Md) : List UInt8 := (if m.1 = [] then [] else lineL (wordsL [100, 97, 116, 97] (m.1.map declT))) ++ m.2.flatMap (fun b => lineL (bindT b))
theorem words_fst (f : List UInt8) (o : List (List UInt8)) : f.length ≤ (wordsL f o).length := by unfold wordsL; rw [List.length_append]; omega
theorem words_take (f : List UInt8) (o : List (List UInt8)) (j : Nat) : (wordsL f (o.take j)).length ≤ (wordsL f o).length := by
  conv => rhs; rw [← List.take_append_drop j o]
  unfold wordsL
  rw [List.flatMap_append]
  simp only [List.length_append]
  omega
theorem enc_len (x : List UInt8) : (encL x).length = x.length + 2 := by simp [encL]
theorem atom_len (e : Ex) : (shE e).length ≤ (atomT e).length ∧ (atomT e).length ≤ (shE e).length + 2 := by
  unfold atomT
  split
  · omega
  · rw [enc_len]; omega
def tx (l : Nm) : ByteArray := ⟨l.toArray⟩
theorem tx_list (l : Nm) : (tx l).data.toList = l := back_list l
theorem tx_inj {a b : Nm} (h : tx a = tx b) : a = b := by
  have := congrArg (fun s : ByteArray => s.data.toList) h
  simpa [tx_list] using this
theorem tx_toList (l : Nm) : (tx l).toList = l := by rw [ByteArray.toList_eq]; exact tx_list l
def vSh (s : Sh) : Value := .agg #[.int .i64 s.1, .string (tx s.2)]
def vTok (y : Tok) : Value := .agg #[.int .i64 y.1.k, .string (tx y.1.t), .bool y.1.f, .int .u64 y.1.x, .int .i64 y.2]
def ShAt (w : World) (g : Nat) (s : Sh) : Prop := w.cell? ⟨g, 0, none⟩ = some (.int .i64 s.1) ∧ w.cell? ⟨g, 1, none⟩ = some (.string (tx s.2))
theorem ShAt.later {w w' : World} {g : Nat} {s : Sh} (h : ShAt w g s) (hb : Below w.heap.size w w') : ShAt w' g s := ⟨later' hb h.1, later' hb h.2⟩
def ShSaid (s : Sh) (w : World) (e : Ending) (w' : World) : Prop := e = .returned (.agg #[.int .i64 s.1, .string (tx s.2)]) ∧ Below w.heap.size w w'
def TokIn (w : World) (g o : Nat) (y : Tok) : Prop := w.cell? ⟨g, o, none⟩ = some (.int .i64 y.1.k) ∧ w.cell? ⟨g, o + 1, none⟩ = some (.string (tx y.1.t)) ∧ w.cell? ⟨g, o + 2, none⟩ = some (.bool y.1.f) ∧ w.cell? ⟨g, o + 3, none⟩ = some (.int .u64 y.1.x) ∧ w.cell? ⟨g, o + 4, none⟩ = some (.int .i64 y.2)
def RestIn (w : World) (b : Nat) (v : Value) (rest : List Tok) : Prop :=
  ∃ a c, v = .slice a rest.length c ∧ rest.length ≤ c ∧ c ≤ maxLen ∧ (rest = [] ∨ ∃ g o, a = some ⟨g, o, none⟩ ∧ g < b ∧ ∀ i (h : i < rest.length), TokIn w g (o + i * 5) rest[i])
def ShB (w : World) (b g : Nat) (s : Sh) : Prop := ShAt w g s ∧ g ≠ b
theorem ShB.later {w w' : World} {b g : Nat} {s : Sh} (h : ShB w b g s) (hb : w.grownBy w' (some b)) : ShB w' b g s := ⟨⟨hb.cell h.1.1 (by simpa using h.2), hb.cell h.1.2 (by simpa using h.2)⟩, h.2⟩
structure Env8 (w : World) (b : Nat) : Prop where
  letw : ShB w b 0 sLet
  casew : ShB w b 1 sCase
  lam : ShB w b 2 sLam
  name : ShB w b 3 sName
  con : ShB w b 4 sCon
  num : ShB w b 5 sNum
  back : ShB w b 6 sBack
  opn : ShB w b 7 sOpen
  data : ShB w b 8 sData
  semi : ShB w b 9 sSemi
  inw : ShB w b 10 sIn
  ofw : ShB w b 11 sOf
  curl : ShB w b 12 sCurl
  lruc : ShB w b 13 sLruc
  arrow : ShB w b 14 sArrow
  sign : ShB w b 15 sSign
  shut : ShB w b 16 sShut
  eq : ShB w b 17 sEq
structure Rdr (w : World) (b : Nat) (me ma : Nat) (last : Int) (rest : List Tok) (d : Nat) : Prop where
  c0 : ∃ v, w.cell? ⟨b, 0, none⟩ = some v ∧ RestIn w b v rest
  c1 : w.cell? ⟨b, 1, none⟩ = some (.int .i64 last)
  c2 : w.cell? ⟨b, 2, none⟩ = some (.int .i64 d)
  c3 : w.cell? ⟨b, 3, none⟩ = some (.map (some me))
  c4 : w.cell? ⟨b, 4, none⟩ = some (.map (some ma))
  z : ∀ j, w.frozen? ⟨b, j, none⟩ = false
theorem grown_of {w w' : World} {b : Nat} (h : Below w.heap.size w w') : w.grownBy w' (some b) := ⟨h.os, h.tape, h.output, h.size, fun k hk _ => h.block k hk⟩
theorem Gt {w w' w'' : World} {b : Nat} (h : w.grownBy w' (some b)) (h2 : w'.grownBy w'' (some b)) : w.grownBy w'' (some b) :=
  ⟨h2.os.trans h.os, h2.tape.trans h.tape, h2.output.trans h.output, Nt h.size h2.size, fun k hk hne => (h2.block k (Nat.lt_of_lt_of_le hk h.size) hne).trans (h.block k hk hne)⟩
theorem Env8.later {w w' : World} {b : Nat} (h : Env8 w b) (hb : w.grownBy w' (some b)) : Env8 w' b := ⟨h.letw.later hb, h.casew.later hb, h.lam.later hb, h.name.later hb, h.con.later hb, h.num.later hb, h.back.later hb, h.opn.later hb, h.data.later hb, h.semi.later hb, h.inw.later hb, h.ofw.later hb, h.curl.later hb, h.lruc.later hb, h.arrow.later hb, h.sign.later hb, h.shut.later hb, h.eq.later hb⟩
theorem TokIn.later {w w' : World} {g o : Nat} {y : Tok} (h : TokIn w g o y) {b : Nat} (hg : g ≠ b) (hb : w.grownBy w' (some b)) : TokIn w' g o y := by
  have hn : ∀ {j}, some (⟨g, j, none⟩ : Addr).block ≠ some b := by simpa using hg
  exact ⟨hb.cell h.1 hn, hb.cell h.2.1 hn, hb.cell h.2.2.1 hn, hb.cell h.2.2.2.1 hn, hb.cell h.2.2.2.2 hn⟩
theorem RestIn.later {w w' : World} {b : Nat} {v : Value} {rest : List Tok} (h : RestIn w b v rest) (hb : w.grownBy w' (some b)) : RestIn w' b v rest := by
  obtain ⟨a, c, e, h1, h2, h3⟩ := h
  refine ⟨a, c, e, h1, h2, ?_⟩
  rcases h3 with h3 | ⟨g, o, e2, hg, ht⟩
  · exact Or.inl h3
  · exact Or.inr ⟨g, o, e2, hg, fun i hi => (ht i hi).later (Nat.ne_of_lt hg) hb⟩
theorem Rdr.later {w w' : World} {b me ma : Nat} {last : Int} {rest : List Tok} {d : Nat} (h : Rdr w b me ma last rest d) (hb : Below w.heap.size w w') : Rdr w' b me ma last rest d := by
  obtain ⟨v, hv, hr⟩ := h.c0
  have lt := Bl hv
  exact ⟨⟨v, later' hb hv, hr.later (grown_of hb)⟩, later' hb h.c1, later' hb h.c2, later' hb h.c3, later' hb h.c4, fun j => (World.frozen?_of_block (w := w) (hb.block _ (by simpa using lt))).trans (h.z j)⟩
def tokO : List Tok → Tok
  | [] => (⟨0, [], false, 0⟩, 0)
  | x :: _ => x
def TokSaid (y : Tok) (w : World) (e : Ending) (w' : World) : Prop := e = .returned (.agg #[.int .i64 y.1.k, .string (tx y.1.t), .bool y.1.f, .int .u64 y.1.x, .int .i64 y.2]) ∧ Below w.heap.size w w'
def IsSaid (v : Bool) (w : World) (e : Ending) (w' : World) : Prop := e = .returned (.bool v) ∧ Below w.heap.size w w'
theorem IsSaid.mk {u v : Bool} {w w' : World} (h : u = v) (hb : Below w.heap.size w w') : IsSaid v w (.returned (.bool u)) w' := ⟨by rw [h], hb⟩
theorem set_grown (W : World) (b o : Nat) (v : Value) : W.grownBy (W.setCell ⟨b, o, none⟩ v) (some b) :=
  ⟨rfl, rfl, rfl, by simp [World.setCell], fun k _ hne => Below.heap_setCell _ _ _ _ (fun e => hne (by simp at e; rw [e]))⟩
theorem at_oth (W : World) (b i j : Nat) (v : Value) (h : i ≠ j) : (W.setCell ⟨b, i, none⟩ v).cell? ⟨b, j, none⟩ = W.cell? ⟨b, j, none⟩ := World.cell?_setCell_other _ _ _ _ (by first | (intro e; cases e; exact h rfl) | simp [h])
theorem at_far (W : World) (b c i j : Nat) (v : Value) (h : b ≠ c) : (W.setCell ⟨b, i, none⟩ v).cell? ⟨c, j, none⟩ = W.cell? ⟨c, j, none⟩ := World.cell?_setCell_other _ _ _ _ (by first | (intro e; cases e; exact h rfl) | simp [h])
theorem at_sam {W : World} {b i : Nat} {u : Value} (v : Value) (h : W.cell? ⟨b, i, none⟩ = some u) : (W.setCell ⟨b, i, none⟩ v).cell? ⟨b, i, none⟩ = some v := World.cell?_setCell_same _ _ _ h
theorem Rdr.rest {W : World} {b me ma : Nat} {last : Int} {rest : List Tok} {d : Nat} (h : Rdr W b me ma last rest d) {v : Value} {r : List Tok} (hr : RestIn W b v r) : Rdr (W.setCell ⟨b, 0, none⟩ v) b me ma last r d := by
  obtain ⟨u, hu, -⟩ := h.c0
  exact ⟨⟨v, at_sam v hu, hr.later (set_grown ..)⟩, (at_oth _ _ _ _ _ (by decide)).trans h.c1, (at_oth _ _ _ _ _ (by decide)).trans h.c2, (at_oth _ _ _ _ _ (by decide)).trans h.c3, (at_oth _ _ _ _ _ (by decide)).trans h.c4, fun j => by simp [h.z j]⟩
theorem Rdr.line {W : World} {b me ma : Nat} {last : Int} {rest : List Tok} {d : Nat} (h : Rdr W b me ma last rest d) (l : Int) : Rdr (W.setCell ⟨b, 1, none⟩ (.int .i64 l)) b me ma l rest d := by
  obtain ⟨u, hu, hr⟩ := h.c0
  exact ⟨⟨u, (at_oth _ _ _ _ _ (by decide)).trans hu, hr.later (set_grown ..)⟩, at_sam _ h.c1, (at_oth _ _ _ _ _ (by decide)).trans h.c2, (at_oth _ _ _ _ _ (by decide)).trans h.c3, (at_oth _ _ _ _ _ (by decide)).trans h.c4, fun j => by simp [h.z j]⟩
theorem grown_new {w W : World} {b p i : Nat} (h : w.grownBy W (some b)) (hp : w.heap.size ≤ p) (v : Value) : w.grownBy (W.setCell ⟨p, i, none⟩ v) (some b) :=
  ⟨h.os, h.tape, h.output, Nt h.size (by simp [World.setCell]), fun k hk hne => (Below.heap_setCell _ _ _ _ (by simp only; omega)).trans (h.block k hk hne)⟩
theorem RestIn.over {W : World} {b p i : Nat} {v u : Value} {r : List Tok} (h : RestIn W b v r) (hp : b < p) : RestIn (W.setCell ⟨p, i, none⟩ u) b v r := by
  obtain ⟨a, c, e, h1, h2, h3⟩ := h
  refine ⟨a, c, e, h1, h2, ?_⟩
  rcases h3 with h3 | ⟨g, o, e2, hg, ht⟩
  · exact Or.inl h3
  · refine Or.inr ⟨g, o, e2, hg, fun j hj => ?_⟩
    obtain ⟨t0, t1, t2, t3, t4⟩ := ht j hj
    have hn : p ≠ g := by omega
    exact ⟨(at_far _ _ _ _ _ _ hn).trans t0, (at_far _ _ _ _ _ _ hn).trans t1, (at_far _ _ _ _ _ _ hn).trans t2, (at_far _ _ _ _ _ _ hn).trans t3, (at_far _ _ _ _ _ _ hn).trans t4⟩
theorem Rdr.over {W : World} {b me ma : Nat} {last : Int} {rest : List Tok} {d : Nat} (h : Rdr W b me ma last rest d) {p i : Nat} (hp : b < p) (u : Value) : Rdr (W.setCell ⟨p, i, none⟩ u) b me ma last rest d := by
  obtain ⟨v, hv, hr⟩ := h.c0
  have hn : p ≠ b := by omega
  exact ⟨⟨v, (at_far _ _ _ _ _ _ hn).trans hv, hr.over hp⟩, (at_far _ _ _ _ _ _ hn).trans h.c1, (at_far _ _ _ _ _ _ hn).trans h.c2, (at_far _ _ _ _ _ _ hn).trans h.c3, (at_far _ _ _ _ _ _ hn).trans h.c4, fun j => by simp [h.z j]⟩
def TookSaid (b me ma : Nat) (y : Tok) (rest : List Tok) (d : Nat) (w : World) (e : Ending) (w' : World) : Prop :=
  e = .returned (.agg #[.int .i64 y.1.k, .string (tx y.1.t), .bool y.1.f, .int .u64 y.1.x, .int .i64 y.2]) ∧ Rdr w' b me ma y.2 rest d ∧ w.grownBy w' (some b)
def Broken (er ln : Int) (e : Ending) : Prop := e = .panicked [{ v := .iface 76 (.agg #[.int .i64 er, .int .i64 ln]), recovered := false }]
def refE (er last : Int) : List Tok → Int × Int
  | [] => (17, last)
  | x :: _ => (er, x.2)
theorem refuseO_eq {α : Type} (er last : Int) (rest : List Tok) : (refuseO er last rest : Out α) = .bad (refE er last rest).1 (refE er last rest).2 := by
  cases rest <;> rfl
def BrokenSaid (p : Int × Int) (w : World) (e : Ending) (w' : World) : Prop := Broken p.1 p.2 e ∧ Below w.heap.size w w'
theorem tok_field (k : Int) (s : ByteArray) (f : Bool) (x l : Int) (W : World) :
    (Instr.field 93 (.agg #[.int .i64 k, .string s, .bool f, .int .u64 x, .int .i64 l]) 1).run Tryz.prog W = .ok (.string s) W ∧
    (Instr.field 93 (.agg #[.int .i64 k, .string s, .bool f, .int .u64 x, .int .i64 l]) 2).run Tryz.prog W = .ok (.agg #[.bool f, .int .u64 x]) W ∧
    (Instr.field 93 (.agg #[.int .i64 k, .string s, .bool f, .int .u64 x, .int .i64 l]) 3).run Tryz.prog W = .ok (.int .i64 l) W := by
  obtain ⟨fs, h, h1, h2, h3⟩ : ∃ fs, Tryz.prog.underlying 93 = some (.struct fs) ∧ (fs[1]?.map fun f => (f.type, f.offset)) = some (9, 1) ∧ (fs[2]?.map fun f => (f.type, f.offset)) = some (33, 2) ∧ (fs[3]?.map fun f => (f.type, f.offset)) = some (3, 4) := ⟨_, rfl, by kernel_rfl, by kernel_rfl, by kernel_rfl⟩
  obtain ⟨f1, e1, g1⟩ := Option.map_eq_some_iff.1 h1
  obtain ⟨f2, e2, g2⟩ := Option.map_eq_some_iff.1 h2
  obtain ⟨f3, e3, g3⟩ := Option.map_eq_some_iff.1 h3
  simp only [Prod.mk.injEq] at g1 g2 g3
  refine ⟨?_, ?_, ?_⟩
  · simp [Instr.field, run_underlying h, e1, g1.1, g1.2, part, asAgg, Tryz.isAgg9, go_sem]
  · simp [Instr.field, run_underlying h, e2, g2.1, g2.2, part, asAgg, Tryz.isAgg33, Tryz.sizeOf33, go_sem]
  · simp [Instr.field, run_underlying h, e3, g3.1, g3.2, part, asAgg, Tryz.isAgg3, go_sem]
theorem tok_field1 (k : Int) (s : ByteArray) (f : Bool) (x l : Int) (W : World) : (Instr.field 93 (.agg #[.int .i64 k, .string s, .bool f, .int .u64 x, .int .i64 l]) 1).run Tryz.prog W = .ok (.string s) W := (tok_field k s f x l W).1
theorem tok_field2 (k : Int) (s : ByteArray) (f : Bool) (x l : Int) (W : World) : (Instr.field 93 (.agg #[.int .i64 k, .string s, .bool f, .int .u64 x, .int .i64 l]) 2).run Tryz.prog W = .ok (.agg #[.bool f, .int .u64 x]) W := (tok_field k s f x l W).2.1
def OutSaid {α : Type} (b me ma d : Nat) (V : α → Ending → World → Prop) (o : Out α) (w : World) (e : Ending) (w' : World) : Prop :=
  match o with
  | .ok a l r => V a e w' ∧ Rdr w' b me ma l r d ∧ w.grownBy w' (some b)
  | .bad er ln => Broken er ln e ∧ w.grownBy w' (some b)
def TokV (y : Tok) (e : Ending) (_ : World) : Prop := e = .returned (.agg #[.int .i64 y.1.k, .string (tx y.1.t), .bool y.1.f, .int .u64 y.1.x, .int .i64 y.2])
theorem take_of {rest : List Tok} {s : Sh} (h : shapeL rest = s) (hs : s.1 ≠ 0) : ∃ y r, rest = y :: r := by
  cases rest with
  | nil =>
    exfalso
    apply hs
    rw [← h]
    rfl
  | cons y r => exact ⟨y, r, rfl⟩
theorem Rdr.over5 {W : World} {b me ma : Nat} {last : Int} {rest : List Tok} {d : Nat} (h : Rdr W b me ma last rest d) {p : Nat} (hp : b < p) (v0 v1 v2 v3 v4 : Value) : Rdr (((((W.setCell ⟨p, 0, none⟩ v0).setCell ⟨p, 1, none⟩ v1).setCell ⟨p, 2, none⟩ v2).setCell ⟨p, 3, none⟩ v3).setCell ⟨p, 4, none⟩ v4) b me ma last rest d := ((((h.over hp _).over hp _).over hp _).over hp _).over hp _
theorem grown_new5 {w W : World} {b p : Nat} (h : w.grownBy W (some b)) (hp : w.heap.size ≤ p) (v0 v1 v2 v3 v4 : Value) : w.grownBy (((((W.setCell ⟨p, 0, none⟩ v0).setCell ⟨p, 1, none⟩ v1).setCell ⟨p, 2, none⟩ v2).setCell ⟨p, 3, none⟩ v3).setCell ⟨p, 4, none⟩ v4) (some b) := grown_new (grown_new (grown_new (grown_new (grown_new h hp _) hp _) hp _) hp _) hp _
theorem own_kept {w w' : World} {base : Nat} {e : TypeId} {size : Nat} {v : Value} {n : Nat} {xs : List Value} (h : w.ownsRow base e size v n xs) {b : Nat} (hb : w.grownBy w' (some b)) (hn : v.ownBlock ≠ some b) : w'.ownsRow base e size v n xs := by
  obtain ⟨h0, h | ⟨g, cap, cur, rfl, h2, h3, h4⟩⟩ := h
  · exact ⟨h0, Or.inl h⟩
  · refine ⟨h0, Or.inr ⟨g, cap, cur, rfl, h2, ?_, h4⟩⟩
    have hg : g < w.heap.size := by
      rcases Nat.lt_or_ge g w.heap.size with h | h
      · exact h
      · rw [Array.getElem?_eq_none h] at h3; cases h3
    rw [hb.block g hg (fun e => hn (by rw [← e]; rfl))]
    exact h3
theorem RestIn.past {w w' : World} {b q : Nat} {v : Value} {rest : List Tok} (h : RestIn w b v rest) (hb : w.grownBy w' (some q)) (hq : b < q) : RestIn w' b v rest := by
  obtain ⟨a, c, e, h1, h2, h3⟩ := h
  refine ⟨a, c, e, h1, h2, ?_⟩
  rcases h3 with h3 | ⟨g, o, e2, hg, ht⟩
  · exact Or.inl h3
  · exact Or.inr ⟨g, o, e2, hg, fun i hi => (ht i hi).later (by omega) hb⟩
theorem Rdr.past {w w' : World} {b me ma q : Nat} {last : Int} {rest : List Tok} {d : Nat} (h : Rdr w b me ma last rest d) (hb : w.grownBy w' (some q)) (hq : b < q) : Rdr w' b me ma last rest d := by
  obtain ⟨v, hv, hr⟩ := h.c0
  have lt := Bl hv
  have hn : ∀ {j}, some (⟨b, j, none⟩ : Addr).block ≠ some q := by intro j e; simp at e; omega
  exact ⟨⟨v, hb.cell hv hn, hr.past hb hq⟩, hb.cell h.c1 hn, hb.cell h.c2 hn, hb.cell h.c3 hn, hb.cell h.c4 hn, fun j => (World.frozen?_of_block (w := w) (hb.block _ (by simpa using lt) (by simp; omega))).trans (h.z j)⟩
theorem grown_some {w w' : World} {o : Option Nat} {b : Nat} (hb : w.grownBy w' o) (ho : ∀ g, o = some g → b < g) : ∃ q, b < q ∧ w.grownBy w' (some q) := by
  cases o with
  | some q => exact ⟨q, ho q rfl, hb⟩
  | none => exact ⟨b + 1, by omega, hb.os, hb.tape, hb.output, hb.size, fun k hk _ => hb.block k hk (by simp)⟩
theorem grown_past {w w' w'' : World} {o : Option Nat} {b : Nat} (h : w.grownBy w' (some b)) (h2 : w'.grownBy w'' o) (ho : ∀ g, o = some g → w.heap.size ≤ g) : w.grownBy w'' (some b) :=
  ⟨h2.os.trans h.os, h2.tape.trans h.tape, h2.output.trans h.output, Nt h.size h2.size, fun k hk hne => (h2.block k (Nat.lt_of_lt_of_le hk h.size) (fun e => by have := ho k e.symm; omega)).trans (h.block k hk hne)⟩
def lenOf : Value → Nat
  | .slice _ n _ => n
  | _ => 0
theorem Tryz.info_text : (Tryz.prog.info? 9).map (fun i => (i.zero, i.size, i.bytes)) = some (some (.string ⟨#[]⟩), 1, 16) := by kernel_rfl
theorem own_shape {w : World} {base : Nat} {e : TypeId} {size : Nat} {v : Value} {n : Nat} {xs : List Value} (h : w.ownsRow base e size v n xs) : ∃ a c, v = .slice a n c ∧ ∀ g, v.ownBlock = some g → base ≤ g := by
  obtain ⟨h0, ⟨rfl, rfl⟩ | ⟨g, cap, cur, rfl, h2, h3⟩⟩ := h
  · exact ⟨_, _, rfl, fun g hg => by cases hg⟩
  · exact ⟨_, _, rfl, fun g' hg => by cases hg; exact h2⟩
def NamesSaid (b me ma d : Nat) (o : List Nm × Int × List Tok) (w : World) (e : Ending) (w' : World) : Prop :=
  ∃ v, e = .returned v ∧ Rdr w' b me ma o.2.1 o.2.2 d ∧ w.grownBy w' (some b) ∧ w'.ownsRow w.heap.size 9 1 v o.1.length (o.1.map fun x => .string (tx x))
def entries (es : List (Sh × Value)) : List MapEntry := es.zipIdx.map fun p => ⟨.agg #[.int .i64 p.1.1.1, .string (tx p.1.1.2)], p.1.2, p.2⟩
def lookSh (es : List (Sh × Value)) (s : Sh) : Option Value := (es.find? fun p => decide (p.1 = s)).map (·.2)
def KF (w : World) (m : Nat) (es : List (Sh × Value)) : Prop := ∃ es' c, w.heap[m]? = some (.map (entries es').toArray c) ∧ ∀ s, lookSh es' s = lookSh es s
theorem KF.later {w w' : World} {m b : Nat} {es : List (Sh × Value)} (h : KF w m es) (hb : w.grownBy w' (some b)) (hm : m ≠ b) : KF w' m es := by
  obtain ⟨es', c, h, hl⟩ := h
  have lt : m < w.heap.size := by
    rcases Nat.lt_or_ge m w.heap.size with h' | h'
    · exact h'
    · rw [Array.getElem?_eq_none h'] at h; cases h
  exact ⟨es', c, (hb.block m lt (by simpa using hm)).trans h, hl⟩
theorem KF.below {w w' : World} {m : Nat} {es : List (Sh × Value)} (h : KF w m es) (hb : Below w.heap.size w w') : KF w' m es := h.later (b := m + 1) (grown_of hb) (by omega)
def FormSaid (p : Int × Int) (es : List (Sh × Value)) (s : Sh) (w : World) (e : Ending) (w' : World) : Prop :=
  (∃ v, lookSh es s = some v ∧ e = .returned v ∧ Below w.heap.size w w') ∨ (lookSh es s = none ∧ Broken p.1 p.2 e ∧ Below w.heap.size w w')
def RowAt (W : World) (K : Nat → Prop) (_e : TypeId) (size : Nat) (v : Value) (n : Nat) (xs : List Value) : Prop :=
  xs.length = n * size ∧ ((v = .slice none 0 0 ∧ n = 0) ∨ ∃ g o c cur, v = .slice (some ⟨g, o, none⟩) n c ∧ K g ∧ W.heap[g]? = some (cur : Obj) ∧ n ≤ c ∧ c ≤ maxLen ∧ ∀ j u, xs[j]? = some u → W.cell? ⟨g, o + j, none⟩ = some u)
theorem RowAt.move {W W' : World} {K K' : Nat → Prop} (hK : ∀ g, K g → g < W.heap.size → K' g ∧ W'.heap[g]? = W.heap[g]?) {e : TypeId} {size : Nat} {v : Value} {n : Nat} {xs : List Value} (h : RowAt W K e size v n xs) : RowAt W' K' e size v n xs := by
  obtain ⟨h0, ⟨rfl, rfl⟩ | ⟨g, o, c, cur, rfl, hk, hc, h1, h2, h3⟩⟩ := h
  · exact ⟨h0, Or.inl ⟨rfl, rfl⟩⟩
  · have lt : g < W.heap.size := by
      rcases Nat.lt_or_ge g W.heap.size with h' | h'
      · exact h'
      · rw [Array.getElem?_eq_none h'] at hc; cases hc
    obtain ⟨k1, k2⟩ := hK g hk lt
    exact ⟨h0, Or.inr ⟨g, o, c, cur, rfl, k1, k2.trans hc, h1, h2, fun j u hj => (World.cell?_of_block (a := ⟨g, o + j, none⟩) k2).trans (h3 j u hj)⟩⟩
theorem RowAt.of {W : World} {base : Nat} {K : Nat → Prop} {e : TypeId} {size : Nat} {v : Value} {n : Nat} {xs : List Value} (h : W.ownsRow base e size v n xs) (hk : ∀ g, base ≤ g → K g) : RowAt W K e size v n xs := by
  obtain ⟨h0, ⟨rfl, rfl⟩ | ⟨g, cap, cur, rfl, hb, hc, h1, h2, -, h4⟩⟩ := h
  · exact ⟨h0, Or.inl ⟨rfl, rfl⟩⟩
  · refine ⟨h0, Or.inr ⟨g, 0, cap, _, rfl, hk g hb, hc, h1, h2, fun j u hj => ?_⟩⟩
    rw [Nat.zero_add, cell_of_row W g j cur e (0, 0) hc]
    rw [← h4] at hj
    have := List.getElem?_take (l := cur.toList) (i := n * size) (j := j)
    rw [hj] at this
    split at this
    · simpa using this.symm
    · cases this
theorem RowAt.nil (W : World) (K : Nat → Prop) (e : TypeId) (size : Nat) : RowAt W K e size (.slice none 0 0) 0 [] := ⟨by simp, Or.inl ⟨rfl, rfl⟩⟩
theorem RowAt.sl {W : World} {K : Nat → Prop} {e : TypeId} {size : Nat} {v : Value} {n : Nat} {xs : List Value} (h : RowAt W K e size v n xs) : ∃ a c, v = .slice a n c := by
  obtain ⟨_, ⟨rfl, rfl⟩ | ⟨g, o, c, cur, rfl, -⟩⟩ := h
  · exact ⟨_, _, rfl⟩
  · exact ⟨_, _, rfl⟩
theorem RowAt.slice {W : World} {K : Nat → Prop} {e : TypeId} {size : Nat} {v : Value} {n : Nat} {xs : List Value} (h : RowAt W K e size v n xs) : ∃ a n c, v = .slice a n c := by
  obtain ⟨a, c, h⟩ := h.sl
  exact ⟨a, n, c, h⟩
theorem RowAt.cap {W : World} {K : Nat → Prop} {e : TypeId} {size : Nat} {v : Value} {n : Nat} {xs : List Value} (h : RowAt W K e size v n xs) : n ≤ maxLen := by
  obtain ⟨_, ⟨rfl, rfl⟩ | ⟨g, o, c, cur, rfl, -, -, h1, h2, -⟩⟩ := h
  · exact Nat.zero_le _
  · omega
theorem RowAt.at {W : World} {K : Nat → Prop} {e : TypeId} {size : Nat} {a : Option Addr} {n c : Nat} {xs : List Value} (h : RowAt W K e size (.slice a n c) n xs) (hn : 0 < n) : ∃ g o, a = some ⟨g, o, none⟩ ∧ n ≤ c ∧ c ≤ maxLen ∧ K g ∧ ∀ j u, xs[j]? = some u → W.cell? ⟨g, o + j, none⟩ = some u := by
  obtain ⟨_, ⟨e, rfl⟩ | ⟨g, o, c', cur, e, hk, -, h1, h2, h3⟩⟩ := h
  · omega
  · cases e
    exact ⟨g, o, rfl, h1, h2, hk, h3⟩
theorem RowAt.tail {W : World} {K : Nat → Prop} {e : TypeId} {size n g o c : Nat} {cs xs : List Value} (h : RowAt W K e size (.slice (some ⟨g, o, none⟩) (n + 1) c) (n + 1) (cs ++ xs)) (hs : cs.length = size) {o' : Nat} (ho : n = 0 ∨ o' = o + size) : RowAt W K e size (.slice (some ⟨g, o', none⟩) n (c - 1)) n xs := by
  obtain ⟨h0, ⟨e, h⟩ | ⟨g', o2, c', cur, e, hk, hc, h1, h2, h3⟩⟩ := h
  · omega
  · cases e
    have hx : xs.length = n * size := by
      rw [List.length_append, Nat.succ_mul] at h0
      omega
    refine ⟨hx, Or.inr ⟨g, o', c - 1, cur, rfl, hk, hc, by omega, by omega, fun j u hj => ?_⟩⟩
    rcases ho with rfl | rfl
    · rw [Nat.zero_mul] at hx
      cases xs with
      | nil => cases hj
      | cons x xs => simp at hx
    · have := h3 (size + j) u (by rw [List.getElem?_append_right (by omega), hs, Nat.add_sub_cancel_left]; exact hj)
      rwa [← Nat.add_assoc] at this
def namesV (l : List Nm) : List Value := l.map fun x => .string (tx x)
mutual
inductive ExAt (W : World) (K : Nat → Prop) : Ex → List Value → Prop
  | mk (k : Int) (n : Nm) (f : Bool) (x : Int) (ps : List Nm) (ks : List Ex) (bs : List Bnd) (al : List Alt) (vp vk vb va : Value) (xk xb xa : List Value)
    (hp : RowAt W K 9 1 vp ps.length (namesV ps)) (hk : RowAt W K 37 8 vk ks.length xk) (hb : RowAt W K 39 10 vb bs.length xb) (ha : RowAt W K 56 13 va al.length xa)
    (tk : ExsAt W K ks xk) (tb : BndsAt W K bs xb) (ta : AltsAt W K al xa) : ExAt W K (.mk k n f x ps ks bs al) [.int .i64 k, .string (tx n), .bool f, .int .u64 x, vp, vk, vb, va]
inductive ExsAt (W : World) (K : Nat → Prop) : List Ex → List Value → Prop
  | nil : ExsAt W K [] []
  | cons (e : Ex) (es : List Ex) (cs xs : List Value) (h : ExAt W K e cs) (t : ExsAt W K es xs) : ExsAt W K (e :: es) (cs ++ xs)
inductive BndsAt (W : World) (K : Nat → Prop) : List Bnd → List Value → Prop
  | nil : BndsAt W K [] []
  | cons (n : Nm) (ps : List Nm) (e : Ex) (bs : List Bnd) (vp : Value) (cs xs : List Value) (hp : RowAt W K 9 1 vp ps.length (namesV ps)) (h : ExAt W K e cs) (t : BndsAt W K bs xs) : BndsAt W K ((n, ps, e) :: bs) (.string (tx n) :: vp :: cs ++ xs)
inductive AltsAt (W : World) (K : Nat → Prop) : List Alt → List Value → Prop
  | nil : AltsAt W K [] []
  | cons (k : Int) (n : Nm) (f : Bool) (x : Int) (ps : List Nm) (e : Ex) (al : List Alt) (vp : Value) (cs xs : List Value) (hp : RowAt W K 9 1 vp ps.length (namesV ps)) (h : ExAt W K e cs) (t : AltsAt W K al xs) : AltsAt W K ((k, n, f, x, ps, e) :: al) (.int .i64 k :: .string (tx n) :: .bool f :: .int .u64 x :: vp :: cs ++ xs)
end
theorem ExAt.move {W W' : World} {K K' : Nat → Prop} (hK : ∀ g, K g → g < W.heap.size → K' g ∧ W'.heap[g]? = W.heap[g]?) {e : Ex} {cs : List Value} (h : ExAt W K e cs) : ExAt W' K' e cs :=
  ExAt.rec (motive_1 := fun e cs _ => ExAt W' K' e cs) (motive_2 := fun es xs _ => ExsAt W' K' es xs) (motive_3 := fun bs xs _ => BndsAt W' K' bs xs) (motive_4 := fun al xs _ => AltsAt W' K' al xs)
    (fun k n f x ps ks bs al vp vk vb va xk xb xa hp hk hb ha _ _ _ t1 t2 t3 => .mk k n f x ps ks bs al vp vk vb va xk xb xa (hp.move hK) (hk.move hK) (hb.move hK) (ha.move hK) t1 t2 t3)
    .nil (fun e es cs xs _ _ h t => .cons e es cs xs h t) .nil (fun n ps e bs vp cs xs hp _ _ h t => .cons n ps e bs vp cs xs (hp.move hK) h t) .nil (fun k n f x ps e al vp cs xs hp _ _ h t => .cons k n f x ps e al vp cs xs (hp.move hK) h t) h
theorem ExsAt.move {W W' : World} {K K' : Nat → Prop} (hK : ∀ g, K g → g < W.heap.size → K' g ∧ W'.heap[g]? = W.heap[g]?) : ∀ {es : List Ex} {xs : List Value}, ExsAt W K es xs → ExsAt W' K' es xs
  | [], _, .nil => .nil
  | e :: es, _, .cons _ _ cs xs h t => .cons e es cs xs (h.move hK) (t.move hK)
theorem BndsAt.move {W W' : World} {K K' : Nat → Prop} (hK : ∀ g, K g → g < W.heap.size → K' g ∧ W'.heap[g]? = W.heap[g]?) : ∀ {bs : List Bnd} {xs : List Value}, BndsAt W K bs xs → BndsAt W' K' bs xs
  | [], _, .nil => .nil
  | _ :: _, _, .cons n ps e bs vp cs xs hp h t => .cons n ps e bs vp cs xs (hp.move hK) (h.move hK) (t.move hK)
theorem AltsAt.move {W W' : World} {K K' : Nat → Prop} (hK : ∀ g, K g → g < W.heap.size → K' g ∧ W'.heap[g]? = W.heap[g]?) : ∀ {al : List Alt} {xs : List Value}, AltsAt W K al xs → AltsAt W' K' al xs
  | [], _, .nil => .nil
  | _ :: _, _, .cons k n f x ps e al vp cs xs hp h t => .cons k n f x ps e al vp cs xs (hp.move hK) (h.move hK) (t.move hK)
theorem ExsAt.snoc {W : World} {K : Nat → Prop} : ∀ {es : List Ex} {xs : List Value} {e : Ex} {cs : List Value}, ExsAt W K es xs → ExAt W K e cs → ExsAt W K (es ++ [e]) (xs ++ cs)
  | [], _, e, cs, .nil, h => by simpa using ExsAt.cons e [] cs [] h .nil
  | e0 :: es, _, e, cs, .cons _ _ c0 x0 h0 t0, h => by simpa [List.append_assoc] using ExsAt.cons e0 _ c0 _ h0 (t0.snoc h)
def ExV (lo : Nat) (x : Ex) (e : Ending) (w : World) : Prop :=
  ∃ k n f u vp vk vb va, e = .returned (.agg #[.int .i64 k, .string n, .bool f, .int .u64 u, vp, vk, vb, va]) ∧ ExAt w (fun g => lo ≤ g) x [.int .i64 k, .string n, .bool f, .int .u64 u, vp, vk, vb, va]
theorem ExAt.leaf (W : World) (K : Nat → Prop) (k : Int) (n : Nm) : ExAt W K (.leaf k n) [.int .i64 k, .string (tx n), .bool false, .int .u64 0, .slice none 0 0, .slice none 0 0, .slice none 0 0, .slice none 0 0] :=
  .mk k n false 0 [] [] [] [] _ _ _ _ [] [] [] (RowAt.nil _ _ _ _) (RowAt.nil _ _ _ _) (RowAt.nil _ _ _ _) (RowAt.nil _ _ _ _) .nil .nil .nil
theorem ExAt.num (W : World) (K : Nat → Prop) (f : Bool) (x : Int) : ExAt W K (.num f x) [.int .i64 3, .string (tx []), .bool f, .int .u64 x, .slice none 0 0, .slice none 0 0, .slice none 0 0, .slice none 0 0] :=
  .mk 3 [] f x [] [] [] [] _ _ _ _ [] [] [] (RowAt.nil _ _ _ _) (RowAt.nil _ _ _ _) (RowAt.nil _ _ _ _) (RowAt.nil _ _ _ _) .nil .nil .nil
abbrev TB : TypeId := 60
theorem b_size : (Tryz.prog.info? TB).map (·.size) = some 2 := by kernel_rfl
theorem b_lies : liesAt Tryz.prog Tryz.prog.depth TB (2 / Tryz.prog.cellsOf TB) 0 TB 1 = true := by kernel_rfl
theorem bcc_used (b : Nat) (w : World) (h0 : w.cell? ⟨b, 0, none⟩ = some (.pointer (some ⟨b, 0, none⟩))) :
    Calls Tryz.prog 39 #[.pointer (some ⟨b, 0, none⟩)] w fun e w' => e = .returned (.tuple #[]) ∧ w' = w := by
  obtain ⟨j, hj, _⟩ := Option.map_eq_some_iff.1 b_size
  go_enter Tryz.func39, Tryz.ntmps39
  go_wp2
  rw [Lib.run_neq_ptr_same w _ Tryz.underlying57 hj]
  go_wp2
  go_end0
  exact ⟨rfl, rfl⟩
theorem bcc_fresh (b : Nat) (w : World) (h0 : w.cell? ⟨b, 0, none⟩ = some (.pointer none)) (hsh : w.shape? b = some (TB, 2)) (hfz : w.frozen? ⟨b, 0, none⟩ = false) :
    Calls Tryz.prog 39 #[.pointer (some ⟨b, 0, none⟩)] w fun e w' => e = .returned (.tuple #[]) ∧ w' = w.setCell ⟨b, 0, none⟩ (.pointer (some ⟨b, 0, none⟩)) := by
  obtain ⟨j, hj, hjs⟩ := Option.map_eq_some_iff.1 b_size
  go_enter Tryz.func39, Tryz.ntmps39
  go_wp2
  rw [Lib.run_to_unsafe w ⟨b, 0, none⟩ Tryz.underlying57 Tryz.underlying115 hj (by rw [hjs]; decide) hsh (Nat.zero_lt_succ 1)]
  simp only [Result.andThen]
  rw [Oper.upon_value]
  go_wp2
  rw [run_callFunc_extern Tryz.func69 (by kernel_rfl) (by kernel_rfl) (by kernel_rfl) (e := Extern.AbiNoEscape.same) (by kernel_rfl)]
  rw [Lib.run_noEscape]
  simp only [Result.andThen]
  rw [Oper.upon_value]
  go_wp2
  rw [Lib.run_from_unsafe w ⟨b, 0, none⟩ Tryz.underlying115 Tryz.underlying57 hj hsh b_lies]
  simp only [Result.andThen]
  rw [Oper.upon_value]
  go_wp2
  go_end0
  exact ⟨rfl, rfl⟩
theorem bcc_any (B b : Nat) (bs : List Value) (w : World) (h : Lib.IsBuilder TB 5 B b bs w) :
    Calls Tryz.prog 39 #[.pointer (some ⟨b, 0, none⟩)] w fun e w' => e = .returned (.tuple #[]) ∧ (Lib.BuilderAt TB 5 B b (.pointer (some ⟨b, 0, none⟩)) bs w' ∧ Below B w w') := by
  rcases h with h | h
  · refine (bcc_fresh b w h.cell0 h.shape h.frozen0).mono ?_
    rintro e w' ⟨rfl, rfl⟩
    exact ⟨rfl, h.used _, (Below.refl B w).setCell (p := ⟨b, 0, none⟩) h.1 _⟩
  · refine (bcc_used b w h.cell0).mono ?_
    rintro e w' ⟨rfl, rfl⟩
    exact ⟨rfl, h, Below.refl B _⟩
theorem b_byte : (Tryz.prog.info? 5).map (fun i => (i.zero, i.size, i.bytes)) = some (some (.int .u8 0), 1, 1) := by kernel_rfl
theorem ws_any (B b : Nat) (bs : List Value) (s : ByteArray) (w : World) (h : Lib.IsBuilder TB 5 B b bs w) (hlen : bs.length + s.size ≤ 140737488355328) (hBw : B ≤ w.heap.size) :
    Calls Tryz.prog 23 #[.pointer (some ⟨b, 0, none⟩), .string s] w fun e w' => e = .returned (.tuple #[.int .i64 s.size, .nilIface]) ∧ (Lib.BuilderAt TB 5 B b (.pointer (some ⟨b, 0, none⟩)) (bs ++ Lib.strCells s) w' ∧ Below B w w') := by
  obtain ⟨i0, hi, hz0, hz1, hz2⟩ := info_parts b_byte
  have HC := Hd (bcc_any B b bs w h)
  go_enter Tryz.func23, Tryz.ntmps23
  go_wp2_with fail
  refine HC.out.mono ?_
  rintro e w1 ⟨rfl, h1, hb1⟩
  obtain ⟨hB, v, hbk, hown, hne⟩ := h1
  have c0 : w1.cell? ⟨b, 0, none⟩ = some (.pointer (some ⟨b, 0, none⟩)) := by rw [Lib.cell_of_heap hbk]; rfl
  have c1 : w1.cell? ⟨b, 1, none⟩ = some v := by rw [Lib.cell_of_heap hbk]; rfl
  go_wp2_with (at_builtin; refine Lib.wpList_append_own_string _ rfl _ _ 58 9 rfl B 5 i0 Tryz.underlying58 Tryz.underlying9 hi hz0 hz1 hz2 _ _ _ rfl hown s rfl ?c3 ?c4 ?c5 ?_)
  case c3 => unfold maxLen; omega
  case c4 => omega
  case c5 => have := hb1.size; omega
  intro v' w2 hown' hgrow _
  have hlt : b < w1.heap.size := by
    rcases Nat.lt_or_ge b w1.heap.size with h' | h'
    · exact h'
    · simp [Array.getElem?_eq_none h'] at hbk
  have hb2 : w2.heap[b]? = some (.cells #[.pointer (some ⟨b, 0, none⟩), v] TB (0, 0)) := by
    rw [hgrow.block b hlt (fun e => hne e.symm)]
    exact hbk
  have d0 : w2.cell? ⟨b, 0, none⟩ = some (.pointer (some ⟨b, 0, none⟩)) := by rw [Lib.cell_of_heap hb2]; rfl
  have d1 : w2.cell? ⟨b, 1, none⟩ = some v := by rw [Lib.cell_of_heap hb2]; rfl
  have f1 : w2.frozen? ⟨b, 1, none⟩ = false := Lib.frozen_of_heap hb2 1
  obtain ⟨ao, n', cap, rfl⟩ : ∃ ao n' cap, v' = .slice ao n' cap := by
    rcases hown'.2 with ⟨hv, _⟩ | ⟨g, cap, cur, hv, _⟩
    · exact ⟨_, _, _, hv⟩
    · exact ⟨_, _, _, hv⟩
  go_wp2
  go_ret2
  refine ⟨rfl, ?_, ?_⟩
  · exact Lib.BuilderAt.put (T := TB) (e := 5) hB hb2 (bs' := bs ++ Lib.strCells s) (by simpa [Lib.strCells_length] using hown') (by decide)
  · exact (hb1.grown hgrow (by have := hb1.size; omega) (fun k hk => (hown.lt k hk).1)).setCell (p := ⟨b, 1, none⟩) hB _
def Box8 (p : Nat) (w3 : World) : Prop := w3.cell? ⟨p, 0, none⟩ = some (.int .i64 0) ∧ w3.cell? ⟨p, 1, none⟩ = some (.string ⟨#[]⟩) ∧ w3.cell? ⟨p, 2, none⟩ = some (.bool false) ∧ w3.cell? ⟨p, 3, none⟩ = some (.int .u64 0) ∧ w3.cell? ⟨p, 4, none⟩ = some (.slice none 0 0) ∧ w3.cell? ⟨p, 5, none⟩ = some (.slice none 0 0) ∧ w3.cell? ⟨p, 6, none⟩ = some (.slice none 0 0) ∧ w3.cell? ⟨p, 7, none⟩ = some (.slice none 0 0) ∧ w3.frozen? ⟨p, 0, none⟩ = false ∧ w3.frozen? ⟨p, 1, none⟩ = false ∧ w3.frozen? ⟨p, 2, none⟩ = false ∧ w3.frozen? ⟨p, 3, none⟩ = false ∧ w3.frozen? ⟨p, 4, none⟩ = false ∧ w3.frozen? ⟨p, 5, none⟩ = false ∧ w3.frozen? ⟨p, 6, none⟩ = false ∧ w3.frozen? ⟨p, 7, none⟩ = false
def meth (f b : Nat) : Value := .func (.func f) #[.pointer (some ⟨b, 0, none⟩)] #[]
def namer (k r : Nat) : Value := .func (.func 87) #[] #[.pointer (some ⟨k, 0, none⟩), .pointer (some ⟨r, 0, none⟩)]
structure Bx where
  k1 : Nat
  r1 : Nat
  k2 : Nat
  r2 : Nat
  k3 : Nat
  r3 : Nat
def exprForms (b : Nat) : List (Sh × Value) := [(sLet, meth 44 b), (sCase, meth 45 b), (sLam, meth 46 b), (sName, meth 47 b), (sCon, meth 47 b), (sNum, meth 47 b), (sBack, meth 47 b), (sOpen, meth 47 b)]
def atomForms (b : Nat) (B : Bx) : List (Sh × Value) := [(sName, namer B.k1 B.r1), (sCon, namer B.k2 B.r2), (sNum, meth 49 b), (sBack, namer B.k3 B.r3), (sOpen, meth 50 b)]
def BoxAt (W : World) (b k r : Nat) (kind : Int) : Prop := W.cell? ⟨k, 0, none⟩ = some (.int .i64 kind) ∧ W.cell? ⟨r, 0, none⟩ = some (.pointer (some ⟨b, 0, none⟩)) ∧ k ≠ b ∧ r ≠ b
theorem BoxAt.later {W W' : World} {b k r : Nat} {kind : Int} (h : BoxAt W b k r kind) (hb : W.grownBy W' (some b)) : BoxAt W' b k r kind :=
  ⟨hb.cell h.1 (by simpa using h.2.2.1), hb.cell h.2.1 (by simpa using h.2.2.2), h.2.2⟩
structure Ctx (W : World) (b me ma : Nat) (B : Bx) : Prop where
  env : Env8 W b
  ex : KF W me (exprForms b)
  at' : KF W ma (atomForms b B)
  ne : me ≠ b
  na : ma ≠ b
  b1 : BoxAt W b B.k1 B.r1 1
  b2 : BoxAt W b B.k2 B.r2 2
  b3 : BoxAt W b B.k3 B.r3 5
theorem Ctx.later {W W' : World} {b me ma : Nat} {B : Bx} (h : Ctx W b me ma B) (hb : W.grownBy W' (some b)) : Ctx W' b me ma B :=
  ⟨h.env.later hb, h.ex.later hb h.ne, h.at'.later hb h.na, h.ne, h.na, h.b1.later hb, h.b2.later hb, h.b3.later hb⟩
def ExprC (b me ma : Nat) (B : Bx) (n d : Nat) : Prop :=
  ∀ (last : Int) (rest : List Tok) (W : World), rest.length < n → rest.length ≤ 4096 → Ctx W b me ma B → Rdr W b me ma last rest d → Calls Tryz.prog 80 #[.pointer (some ⟨b, 0, none⟩)] W (OutSaid b me ma d (ExV W.heap.size) (exprO n d last rest) W)
theorem ExAt.slices {W : World} {K : Nat → Prop} {x : Ex} {k n f u vp vk vb va : Value} (h : ExAt W K x [k, n, f, u, vp, vk, vb, va]) : (∃ a n c, vp = .slice a n c) ∧ (∃ a n c, vk = .slice a n c) ∧ (∃ a n c, vb = .slice a n c) ∧ (∃ a n c, va = .slice a n c) := by
  cases h with
  | mk _ _ _ _ _ _ _ _ _ _ _ _ _ _ _ hp hk hb ha => exact ⟨hp.slice, hk.slice, hb.slice, ha.slice⟩
theorem atomO_none {ex : Par Ex} {last : Int} {rest : List Tok} (h : shapeL rest ≠ sName ∧ shapeL rest ≠ sCon ∧ shapeL rest ≠ sNum ∧ shapeL rest ≠ sBack ∧ shapeL rest ≠ sOpen) : atomO ex last rest = .bad (refE 3 last rest).1 (refE 3 last rest).2 := by
  unfold atomO
  rw [if_neg h.1, if_neg h.2.1, if_neg h.2.2.1, if_neg h.2.2.2.1, if_neg h.2.2.2.2, refuseO_eq]
theorem Tryz.info_expr : (Tryz.prog.info? 37).map (fun i => (i.zero, i.size, i.bytes)) = some (some (.agg #[.int .i64 0, .string ⟨#[]⟩, .bool false, .int .u64 0, .slice none 0 0, .slice none 0 0, .slice none 0 0, .slice none 0 0]), 8, 136) := by kernel_rfl
def ExsV (lo : Nat) (xs : List Ex) (e : Ending) (w : World) : Prop := ∃ v cs, e = .returned v ∧ w.ownsRow lo 37 8 v xs.length cs ∧ ExsAt w (fun g => lo ≤ g) xs cs
theorem Less.then {α β : Type} {m : Nat} {o : Out α} {f : α → Int → List Tok → Out β} (h : Less m o) (hf : ∀ a l r, Less r.length (f a l r)) : Less m (o.bind f) :=
  h.bind fun a l r hr => (hf a l r).mono hr
theorem less_ok {α : Type} (a : α) (l : Int) (r : List Tok) : Less r.length (.ok a l r) := Nat.le_refl _
theorem less_refuse {α : Type} (er l : Int) (r : List Tok) (m : Nat) : Less m (refuseO er l r : Out α) := by rw [refuseO_eq]; trivial
theorem take_shrinks : Shrinks takeO := fun l r => by
  cases r with
  | nil => trivial
  | cons y r => exact Nat.le_succ _
theorem want_shrinks (s : Sh) : Shrinks (wantO s) := fun l r => by
  unfold wantO
  split
  · exact take_shrinks l r
  · exact less_refuse _ _ _ _
theorem names_less : ∀ (r : List Tok) (l : Int) (acc : List Nm), (namesO l r acc).2.2.length ≤ r.length
  | [], l, acc => Nat.le_refl _
  | y :: r, l, acc => by
    unfold namesO
    split
    · exact Nt (names_less r _ _) (Nat.le_succ _)
    · exact Nat.le_refl _
theorem bind_shrinks {ex : Par Ex} (h : Shrinks ex) : Shrinks (bindO ex) := fun l r =>
  (want_shrinks _ l r).then fun _ l r => Less.mono ((want_shrinks _ _ _).then fun _ l2 r2 => (h l2 r2).then fun _ _ _ => less_ok _ _ _) (names_less r l [])
theorem more_shrinks {α : Type} {item : Par α} (h : Shrinks item) : ∀ (n : Nat) (acc : List α), Shrinks (moreO item n acc)
  | 0, acc => fun l r => less_ok _ _ _
  | n + 1, acc => fun l r => by
    unfold moreO
    split
    · exact (take_shrinks l r).then fun _ l r => (h l r).then fun a l2 r2 => more_shrinks h n _ l2 r2
    · exact less_ok _ _ _
theorem some_shrinks {α : Type} {item : Par α} (h : Shrinks item) : Shrinks (someO item) := fun l r => (h l r).then fun _ l r => more_shrinks h _ _ l r
theorem inner_shrinks {ex : Par Ex} (h : Shrinks ex) : Shrinks (innerO ex) := fun l r =>
  (want_shrinks _ l r).then fun _ l r => (h l r).then fun _ l2 r2 => (want_shrinks _ l2 r2).then fun _ _ _ => less_ok _ _ _
theorem atom_shrinks {ex : Par Ex} (h : Shrinks ex) : Shrinks (atomO ex) := fun l r => by
  unfold atomO
  split
  · exact (take_shrinks l r).then fun t l r => less_ok _ _ _
  split
  · exact (take_shrinks l r).then fun t l r => less_ok _ _ _
  split
  · exact (take_shrinks l r).then fun t l r => less_ok _ _ _
  split
  · exact (take_shrinks l r).then fun t l r => less_ok _ _ _
  split
  · exact inner_shrinks h l r
  · exact less_refuse _ _ _ _
theorem atoms_shrinks {ex : Par Ex} (h : Shrinks ex) : ∀ (n : Nat) (acc : List Ex), Shrinks (atomsO ex n acc)
  | 0, acc => fun l r => less_ok _ _ _
  | n + 1, acc => fun l r => by
    unfold atomsO
    split
    · exact (atom_shrinks h l r).then fun a l r => atoms_shrinks h n _ l r
    · exact less_ok _ _ _
theorem row_shrinks {ex : Par Ex} (h : Shrinks ex) : Shrinks (rowO ex) := fun l r =>
  (atom_shrinks h l r).then fun _ l r => (atoms_shrinks h _ _ l r).then fun _ _ _ => less_ok _ _ _
theorem rows_shrinks {ex : Par Ex} (h : Shrinks ex) : Shrinks (rowsO ex) := fun l r =>
  (row_shrinks h l r).then fun a l r => by
    split
    · exact (take_shrinks l r).then fun t l2 r2 => (row_shrinks h l2 r2).then fun b l3 r3 => less_ok _ _ _
    · exact less_ok _ _ _
theorem let_shrinks {ex : Par Ex} (h : Shrinks ex) : Shrinks (letO ex) := fun l r =>
  (want_shrinks _ l r).then fun _ l r => (some_shrinks (bind_shrinks h) l r).then fun _ l2 r2 => (want_shrinks _ l2 r2).then fun _ l3 r3 => (h l3 r3).then fun _ _ _ => less_ok _ _ _
theorem alt_shrinks {ex : Par Ex} (h : Shrinks ex) : Shrinks (altO ex) := fun l r => by
  unfold altO
  split
  · exact (take_shrinks l r).then fun t l r => Less.mono ((want_shrinks _ _ _).then fun _ l2 r2 => (h l2 r2).then fun x l3 r3 => less_ok _ _ _) (names_less r l [])
  split
  · exact (take_shrinks l r).then fun t l r => (want_shrinks _ l r).then fun _ l2 r2 => (h l2 r2).then fun x l3 r3 => less_ok _ _ _
  · exact (want_shrinks _ l r).then fun t l r => (want_shrinks _ l r).then fun _ l2 r2 => (h l2 r2).then fun x l3 r3 => less_ok _ _ _
theorem case_shrinks {ex : Par Ex} (h : Shrinks ex) : Shrinks (caseO ex) := fun l r =>
  (want_shrinks _ l r).then fun _ l r => (h l r).then fun x l2 r2 => (want_shrinks _ l2 r2).then fun _ l3 r3 => (want_shrinks _ l3 r3).then fun _ l4 r4 => by
    split
    · exact (want_shrinks _ l4 r4).then fun _ l5 r5 => less_ok _ _ _
    · exact (some_shrinks (alt_shrinks h) l4 r4).then fun xs l5 r5 => (want_shrinks _ l5 r5).then fun _ l6 r6 => less_ok _ _ _
theorem lam_shrinks {ex : Par Ex} (h : Shrinks ex) : Shrinks (lamO ex) := fun l r =>
  (want_shrinks _ l r).then fun _ l r => by
    split
    · exact Less.mono ((want_shrinks _ _ _).then fun _ l2 r2 => (h l2 r2).then fun x l3 r3 => less_ok _ _ _) (names_less r l [])
    · exact less_refuse _ _ _ _
theorem expr_shrinks : ∀ (n d : Nat), Shrinks (exprO n d)
  | 0, d => fun l r => trivial
  | n + 1, d => fun l r => by
    unfold exprO
    have h := expr_shrinks n (d + 1)
    split
    · split
      · exact less_refuse _ _ _ _
      split
      · exact let_shrinks h l r
      split
      · exact case_shrinks h l r
      split
      · exact lam_shrinks h l r
      · exact rows_shrinks h l r
    · exact less_refuse _ _ _ _
theorem take_strict {α : Type} {last : Int} {rest : List Tok} {f : Tok → Int → List Tok → Out α} (hf : ∀ a l r, Less r.length (f a l r)) {x : α} {l : Int} {r : List Tok} (h : (takeO last rest).bind f = .ok x l r) : r.length < rest.length := by
  cases rest with
  | nil => cases h
  | cons y r0 =>
    have h1 := hf y y.2 r0
    have h2 : f y y.2 r0 = .ok x l r := h
    rw [h2] at h1
    exact Nat.lt_succ_of_le h1
theorem want_strict {α : Type} {s : Sh} {last : Int} {rest : List Tok} {f : Tok → Int → List Tok → Out α} (hf : ∀ a l r, Less r.length (f a l r)) {x : α} {l : Int} {r : List Tok} (h : (wantO s last rest).bind f = .ok x l r) : r.length < rest.length := by
  unfold wantO at h
  split at h
  · exact take_strict hf h
  · rw [refuseO_eq] at h
    cases h
theorem atom_strict {ex : Par Ex} (hx : Shrinks ex) {last : Int} {rest : List Tok} {x : Ex} {l : Int} {r : List Tok} (h : atomO ex last rest = .ok x l r) : r.length < rest.length := by
  unfold atomO at h
  split at h
  · exact take_strict (fun t l r => less_ok _ _ _) h
  split at h
  · exact take_strict (fun t l r => less_ok _ _ _) h
  split at h
  · exact take_strict (fun t l r => less_ok _ _ _) h
  split at h
  · exact take_strict (fun t l r => less_ok _ _ _) h
  split at h
  · exact want_strict (fun _ l r => (hx l r).then fun x l2 r2 => (want_shrinks _ l2 r2).then fun _ l3 r3 => less_ok _ _ _) h
  · rw [refuseO_eq] at h
    cases h
def bodyO (n d : Nat) : Par Ex := fun last rest =>
  if shapeL rest = sLet then letO (exprO n d) last rest
  else if shapeL rest = sCase then caseO (exprO n d) last rest
  else if shapeL rest = sLam then lamO (exprO n d) last rest
  else rowsO (exprO n d) last rest
def FormC (b me ma : Nat) (B : Bx) (n d : Nat) : Prop :=
  ∀ (last : Int) (rest : List Tok) (W : World) (f : FuncId) (first cap : Array Value), rest.length ≤ n → rest.length ≤ 4096 → Ctx W b me ma B → Rdr W b me ma last rest d → lookSh (exprForms b) (shapeL rest) = some (.func (.func f) first cap) →
    Calls Tryz.prog f (first ++ cap) W (OutSaid b me ma d (ExV W.heap.size) (bodyO n d last rest) W)
def BoxW (W : World) (p : Nat) (cs : List Value) : Prop := (∀ j v, cs[j]? = some v → W.cell? ⟨p, j, none⟩ = some v) ∧ ∀ j, W.frozen? ⟨p, j, none⟩ = false
theorem BoxW.alloc (w : World) (cs : Array Value) (t : TypeId) : BoxW (w.alloc (.cells cs t)) w.heap.size cs.toList :=
  ⟨fun j v h => by simp [go_sem]; simpa using h, fun j => by simp⟩
theorem BoxW.lt {W : World} {p : Nat} {c : Value} {cs : List Value} (h : BoxW W p (c :: cs)) : p < W.heap.size := Bl (h.1 0 c rfl)
theorem BoxW.grown {W W' : World} {p b : Nat} {c : Value} {cs : List Value} (h : BoxW W p (c :: cs)) (hg : W.grownBy W' (some b)) (hp : p ≠ b) : BoxW W' p (c :: cs) :=
  ⟨fun j v hj => hg.cell (h.1 j v hj) (by simpa using hp), fun j => (World.frozen?_of_block (w := W) (hg.block _ h.lt (by simpa using hp))).trans (h.2 j)⟩
theorem boxw_grown {W W' : World} {p b : Nat} {c : Value} {cs : List Value} (h : BoxW W p (c :: cs)) (hg : W.grownBy W' (some b)) (hp : p ≠ b) : BoxW W' p (c :: cs) := h.grown hg hp
theorem BoxW.below {W W' : World} {p : Nat} {c : Value} {cs : List Value} (h : BoxW W p (c :: cs)) (hb : Below W.heap.size W W') : BoxW W' p (c :: cs) :=
  h.grown (b := p + 1) (grown_of hb) (by omega)
theorem BoxW.set {W : World} {p : Nat} {cs : List Value} (h : BoxW W p cs) (i : Nat) (hi : i < cs.length) (v : Value) : BoxW (W.setCell ⟨p, i, none⟩ v) p (cs.set i v) := by
  refine ⟨fun j u hj => ?_, fun j => by simp [h.2 j]⟩
  by_cases e : i = j
  · subst e
    rw [List.getElem?_set_self hi] at hj
    cases hj
    exact at_sam v (h.1 i cs[i] (List.getElem?_eq_getElem hi))
  · rw [List.getElem?_set_ne e] at hj
    exact (at_oth _ _ _ _ _ e).trans (h.1 j u hj)
theorem BoxW.far {W : World} {p q i : Nat} {cs : List Value} (h : BoxW W p cs) (hq : q ≠ p) (v : Value) : BoxW (W.setCell ⟨q, i, none⟩ v) p cs :=
  ⟨fun j u hj => (at_far _ _ _ _ _ _ hq).trans (h.1 j u hj), fun j => by simp [h.2 j]⟩
def Kp (lo hi : Nat) (W W' : World) : Prop := ∀ g, lo ≤ g → g < hi → W'.heap[g]? = W.heap[g]?
theorem Kp.refl (lo hi : Nat) (W : World) : Kp lo hi W W := fun _ _ _ => rfl
theorem Kp.trans {lo hi : Nat} {W W' W'' : World} (h : Kp lo hi W W') (h2 : Kp lo hi W' W'') : Kp lo hi W W'' := fun g h3 h4 => (h2 g h3 h4).trans (h g h3 h4)
theorem Kp.grown {lo hi : Nat} {W W' : World} {b : Nat} (hg : W.grownBy W' (some b)) (hb : b < lo) (hi' : hi ≤ W.heap.size) : Kp lo hi W W' := fun g h1 h2 => hg.block g (by omega) (by simp; omega)
theorem Kp.below {lo hi : Nat} {W W' : World} (hb : Below W.heap.size W W') (hi' : hi ≤ W.heap.size) : Kp lo hi W W' := fun g _ h2 => hb.block g (by omega)
theorem Kp.set {lo hi : Nat} (W : World) (p i : Nat) (v : Value) (h : p < lo ∨ hi ≤ p) : Kp lo hi W (W.setCell ⟨p, i, none⟩ v) := fun g h1 h2 => Below.heap_setCell _ _ _ _ (by simp only; omega)
theorem Kp.sub {lo hi lo' hi' : Nat} {W W' : World} (h : Kp lo hi W W') (h1 : lo ≤ lo') (h2 : hi' ≤ hi) : Kp lo' hi' W W' := fun g h3 h4 => h g (by omega) (by omega)
theorem ExAt.kp {W W' : World} {lo lo' : Nat} {x : Ex} {cs : List Value} (h : ExAt W (fun g => lo ≤ g) x cs) (hk : Kp lo W.heap.size W W') (hl : lo' ≤ lo) : ExAt W' (fun g => lo' ≤ g) x cs := h.move fun g hg lt => ⟨Nt hl hg, hk g hg lt⟩
theorem ExsAt.kp {W W' : World} {lo lo' : Nat} {x : List Ex} {cs : List Value} (h : ExsAt W (fun g => lo ≤ g) x cs) (hk : Kp lo W.heap.size W W') (hl : lo' ≤ lo) : ExsAt W' (fun g => lo' ≤ g) x cs := h.move fun g hg lt => ⟨Nt hl hg, hk g hg lt⟩
theorem BndsAt.kp {W W' : World} {lo lo' : Nat} {x : List Bnd} {cs : List Value} (h : BndsAt W (fun g => lo ≤ g) x cs) (hk : Kp lo W.heap.size W W') (hl : lo' ≤ lo) : BndsAt W' (fun g => lo' ≤ g) x cs := h.move fun g hg lt => ⟨Nt hl hg, hk g hg lt⟩
theorem AltsAt.kp {W W' : World} {lo lo' : Nat} {x : List Alt} {cs : List Value} (h : AltsAt W (fun g => lo ≤ g) x cs) (hk : Kp lo W.heap.size W W') (hl : lo' ≤ lo) : AltsAt W' (fun g => lo' ≤ g) x cs := h.move fun g hg lt => ⟨Nt hl hg, hk g hg lt⟩
theorem RowAt.kp {W W' : World} {lo lo' : Nat} {e : TypeId} {size : Nat} {v : Value} {n : Nat} {xs : List Value} (h : RowAt W (fun g => lo ≤ g) e size v n xs) (hk : Kp lo W.heap.size W W') (hl : lo' ≤ lo) : RowAt W' (fun g => lo' ≤ g) e size v n xs := h.move fun g hg lt => ⟨Nt hl hg, hk g hg lt⟩
theorem RowAt.own {W : World} {lo : Nat} {e : TypeId} {size : Nat} {v : Value} {n : Nat} {xs : List Value} (h : W.ownsRow lo e size v n xs) : RowAt W (fun g => lo ≤ g) e size v n xs := RowAt.of h fun _ h => h
theorem ExAt.withKids {W : World} {K : Nat → Prop} {a : Ex} {k nm f u vp vk vb va v : Value} (h : ExAt W K a [k, nm, f, u, vp, vk, vb, va]) {xs : List Ex} {cs : List Value} (hk : RowAt W K 37 8 v xs.length cs) (hx : ExsAt W K xs cs) : ExAt W K (a.withKids xs) [k, nm, f, u, vp, v, vb, va] := by
  cases h with
  | mk k n f x ps ks bs al vp vk vb va xk xb xa hp hk0 hb ha tk tb ta => exact .mk k n f x ps xs bs al vp v vb va cs xb xa hp hk hb ha hx tb ta
theorem ExAt.kids {W : World} {K : Nat → Prop} {v : Value} {xs : List Ex} {cs : List Value} (k : Int) (n : Nm) (hk : RowAt W K 37 8 v xs.length cs) (hx : ExsAt W K xs cs) : ExAt W K (.mk k n false 0 [] xs [] []) [.int .i64 k, .string (tx n), .bool false, .int .u64 0, .slice none 0 0, v, .slice none 0 0, .slice none 0 0] :=
  .mk k n false 0 [] xs [] [] _ v _ _ cs [] [] (RowAt.nil _ _ _ _) hk (RowAt.nil _ _ _ _) (RowAt.nil _ _ _ _) hx .nil .nil
theorem own_built {W : World} {g base : Nat} {e : TypeId} {size n : Nat} {cs : Array Value} (hg : W.heap[g]? = some (.cells cs e)) (hb : base ≤ g) (hs : cs.size = n * size) (hn : n ≤ maxLen) : W.ownsRow base e size (.slice (some ⟨g, 0, none⟩) n n) n cs.toList :=
  ⟨by rw [Array.length_toList]; exact hs, Or.inr ⟨g, n, cs, rfl, hb, hg, Nat.le_refl _, hn, hs, by rw [← hs, ← Array.length_toList]; exact List.take_length⟩⟩
theorem own_news {W : World} {base : Nat} {e : TypeId} {size n : Nat} {a : Addr} {c : Nat} {xs : List Value} (h : W.ownsRow base e size (.slice (some a) n c) n xs) : ∀ j u, xs[j]? = some u → W.cell? (a.add j) = some u := by
  obtain ⟨h0, ⟨h, -⟩ | ⟨g, cap, cur, h, h2, h3, h4, h5, h6, h7⟩⟩ := h
  · cases h
  · cases h
    intro j u hj
    have hadd : (⟨g, 0, none⟩ : Addr).add j = ⟨g, j, none⟩ := by unfold Addr.add; split <;> simp_all
    rw [hadd, cell_of_row W g j cur e (0, 0) h3]
    rw [← h7] at hj
    have := List.getElem?_take (l := cur.toList) (i := n * size) (j := j)
    rw [hj] at this
    split at this
    · simpa using this.symm
    · cases this
theorem ExAt.one {W : World} {K : Nat → Prop} {x : Ex} {cs : List Value} (h : ExAt W K x cs) : ∀ u ∈ cs, u.oneCell' = true := by
  cases h with
  | mk k n f x ps ks bs al vp vk vb va xk xb xa hp hk hb ha tk tb ta =>
    obtain ⟨_, _, _, rfl⟩ := hp.slice
    obtain ⟨_, _, _, rfl⟩ := hk.slice
    obtain ⟨_, _, _, rfl⟩ := hb.slice
    obtain ⟨_, _, _, rfl⟩ := ha.slice
    intro u hu
    simp at hu
    rcases hu with rfl | rfl | rfl | rfl | rfl | rfl | rfl | rfl <;> rfl
theorem ExsAt.one {W : World} {K : Nat → Prop} : ∀ {es : List Ex} {xs : List Value}, ExsAt W K es xs → ∀ u ∈ xs, u.oneCell' = true
  | [], _, .nil => fun u hu => by cases hu
  | _ :: _, _, .cons _ _ cs xs h t => fun u hu => by
    rcases List.mem_append.1 hu with hu | hu
    · exact h.one u hu
    · exact t.one u hu
theorem ExsAt.len {W : World} {K : Nat → Prop} : ∀ {es : List Ex} {xs : List Value}, ExsAt W K es xs → xs.length = es.length * 8
  | [], _, .nil => rfl
  | _ :: es, _, .cons _ _ cs xs h t => by
    have h8 : cs.length = 8 := by cases h; rfl
    have := t.len
    simp only [List.length_append, List.length_cons, h8, this]
    omega
end Go.Proofs.YthehgcmhcioffaaGreatDoor
