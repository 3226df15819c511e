import Derived.Deep.MidRow
import Derived.Test.YtbnmmbjajheedaaGreatDoorMg1
namespace Go.Proofs.YtbnmmbjajheedaaGreatDoor
set_option maxHeartbeats 64000000
set_option maxRecDepth 100000
open Go.RowKit
open Go.Lib (NumEnd parseUintM parseUintB parseIntB decDigits itoa)
theorem trim_minus (r : List UInt8) : Lib.trimPrefix (45 :: r) [45] = r := by simp [Lib.trimPrefix, Lib.hasPrefix]
theorem trim_plain (c : UInt8) (r : List UInt8) (h : c ≠ 45) : Lib.trimPrefix (c :: r) [45] = c :: r := by
 simp [Lib.trimPrefix, Lib.hasPrefix, Ne.symm h]
theorem digits_zero : decDigits 0 = [48] := by rw [decDigits, dif_pos (by decide)]; rfl
theorem itoa_zero : itoa 0 = [48] := by unfold itoa; rw [if_neg (by decide)]; exact digits_zero
theorem dig_not (c : UInt8) (h : isDig c = true) : c.toNat ≠ 43 ∧ c.toNat ≠ 45 ∧ c ≠ 45 := by
 have := (dig_iff c).1 h
 refine ⟨by omega, by omega, fun e => ?_⟩
 have e1 : (45 : UInt8).toNat = 45 := rfl
 rw [e, e1] at this
 omega
def Mag (d : List UInt8) : Prop := d ≠ [] ∧ d.head? ≠ some 48 ∧ ∀ c ∈ d, isDig c = true
theorem intF_mag (d : List UInt8) : (!d.isEmpty && !(d.head? == some 48) && madeOf d decB.data.toList) = true ↔ Mag d := by
 unfold Mag
 rw [Bool.and_eq_true, Bool.and_eq_true, madeOf_dec]
 simp [and_assoc]
theorem intF_cases (l : List UInt8) : intF l = true ↔ l = [48] ∨ (∃ d, l = 45 :: d ∧ Mag d) ∨ Mag l := by
 unfold intF
 rw [Bool.or_eq_true, intF_mag, beq_iff_eq]
 constructor
 ·rintro (h | h)
  ·exact Or.inl h
  ·cases l with
   | nil => exact absurd rfl h.1
   | cons c r =>
    by_cases e : c = 45
    ·subst e
     rw [trim_minus] at h
     exact Or.inr (Or.inl ⟨r, rfl, h⟩)
    ·rw [trim_plain c r e] at h
     exact Or.inr (Or.inr h)
 ·rintro (h | ⟨d, rfl, h⟩ | h)
  ·exact Or.inl h
  ·rw [trim_minus]; exact Or.inr h
  ·cases l with
   | nil => exact absurd rfl h.1
   | cons c r => rw [trim_plain c r (dig_not c (h.2.2 c (List.mem_cons_self ..))).2.2]; exact Or.inr h
theorem pu_mag (d : List UInt8) (h : Mag d) : parseUintB 64 d = parseUintM 18446744073709551615 0 d := by
 unfold parseUintB
 rw [if_neg h.1]
theorem pi_minus (d : List UInt8) (h : Mag d) : parseIntB 64 (45 :: d) = Lib.signedC 9223372036854775808 (parseUintM 18446744073709551615 0 d) := by
 rw [Lib.parseIntB_minus, pu_mag d h]
theorem pi_plain (d : List UInt8) (h : Mag d) : parseIntB 64 d = Lib.signlessC 9223372036854775808 (parseUintM 18446744073709551615 0 d) := by
 have hp := pu_mag d h
 obtain ⟨h1, _, h3⟩ := h
 cases d with
 | nil => exact absurd rfl h1
 | cons c r =>
  obtain ⟨n1, n2, _⟩ := dig_not c (h3 c (List.mem_cons_self ..))
  rw [Lib.parseIntB_plain 64 c r n1 n2, hp]
theorem pi_zero : parseIntB 64 [48] = .ok 0 := by decide
theorem int_back (l : List UInt8) (v : Int) (hf : intF l = true) (hv : parseIntB 64 l = .ok v) : itoa v = l := by
 rcases (intF_cases l).1 hf with rfl | ⟨d, rfl, hd⟩ | hd
 ·rw [pi_zero] at hv
  obtain rfl : v = 0 := by simpa using hv.symm
  exact itoa_zero
 ·rw [pi_minus d hd] at hv
  cases hp : parseUintM 18446744073709551615 0 d with
  | range => rw [hp] at hv; cases hv
  | ok u =>
   rw [hp] at hv
   simp only [Lib.signedC] at hv
   split at hv
   ·cases hv
   ·obtain ⟨_, hu⟩ := parse_ok _ d 0 u hp
    obtain ⟨b1, b2⟩ := digits_back d.length d rfl hd.1 hd.2.2 hd.2.1
    rw [← hu] at b1 b2
    obtain rfl : v = -(u : Int) := by simpa using hv.symm
    unfold itoa
    rw [if_pos (by omega), show (-(u : Int)).natAbs = u by omega, b1]
  | _ => rw [hp] at hv; cases hv
 ·rw [pi_plain l hd] at hv
  cases hp : parseUintM 18446744073709551615 0 l with
  | range => rw [hp] at hv; cases hv
  | ok u =>
   rw [hp] at hv
   simp only [Lib.signlessC] at hv
   split at hv
   ·cases hv
   ·obtain ⟨_, hu⟩ := parse_ok _ l 0 u hp
    obtain ⟨b1, b2⟩ := digits_back l.length l rfl hd.1 hd.2.2 hd.2.1
    rw [← hu] at b1 b2
    obtain rfl : v = (u : Int) := by simpa using hv.symm
    unfold itoa
    rw [if_neg (by omega), show (u : Int).toNat = u by omega, b1]
  | _ => rw [hp] at hv; cases hv
theorem int_plain (l : List UInt8) (hf : intF l = true) : Plain (parseIntB 64 l) := by
 rcases (intF_cases l).1 hf with rfl | ⟨d, rfl, hd⟩ | hd
 ·rw [pi_zero]; simp [Plain]
 ·rw [pi_minus d hd]
  have h := parse_plain 18446744073709551615 d 0 hd.2.2
  cases hp : parseUintM 18446744073709551615 0 d with
  | range => simp [Lib.signedC, Plain]
  | ok u => simp only [Lib.signedC]; split <;> simp [Plain]
  | _ => rw [hp] at h; exact h.elim
 ·rw [pi_plain l hd]
  have h := parse_plain 18446744073709551615 l 0 hd.2.2
  cases hp : parseUintM 18446744073709551615 0 l with
  | range => simp [Lib.signlessC, Plain]
  | ok u => simp only [Lib.signlessC]; split <;> simp [Plain]
  | _ => rw [hp] at h; exact h.elim
end Go.Proofs.YtbnmmbjajheedaaGreatDoor
namespace Go.Proofs.YtbnmmbjajheedaaGreatDoor
set_option maxHeartbeats 64000000
set_option maxRecDepth 100000
open Go.RowKit
open Go.Lib (NumEnd parseIntB itoa)
def EE (w : World) : Prop := (∃ ev, w.cell? ⟨23, 0, none⟩ = some ev ∧ (ev = .nilIface ∨ ∃ te pe, ev = .iface te pe)) ∧ ∃ ev, w.cell? ⟨24, 0, none⟩ = some ev ∧ (ev = .nilIface ∨ ∃ te pe, ev = .iface te pe)
theorem EE.below {w w' : World} (h : EE w) (hb : Below w.heap.size w w') : EE w' := by
 obtain ⟨⟨e1, h1, h2⟩, e3, h3, h4⟩ := h
 exact ⟨⟨e1, cell_later hb h1, h2⟩, e3, cell_later hb h3, h4⟩
theorem puint_good (t : ByteArray) (hl : t.size = 16) (hall : ∀ c ∈ t.data.toList, isHex c = true) (w : World) :
  Calls Tryz.prog 154 #[.string t, .int .i64 16, .int .i64 64] w fun e w' => e = .returned (.tuple #[.int .u64 (hexN 0 t.data.toList : Nat), .nilIface]) ∧ Below w.heap.size w w' := by
 have h := uint16_good t (by omega) (by omega) hall w
 generalize hexN 0 t.data.toList = n at h ⊢
 go_enter Tryz.func154, Tryz.ntmps154
 go_wp2_with fail
 refine h.mono ?_
 rintro e w' ⟨rfl, hw⟩
 have hb : Below w.heap.size w w' := hw ▸ bytes_below w t
 clear hw h
 go_wp2_with fail
 go_ret2
 exact ⟨rfl, hb⟩
theorem puint_some (t : ByteArray) (hmax : t.size ≤ 140737488355328) (w : World) (hE : EE w) :
  Calls Tryz.prog 154 #[.string t, .int .i64 16, .int .i64 64] w fun e w' => (∃ x v, e = .returned (.tuple #[.int .u64 x, v]) ∧ (v = .nilIface ∨ ∃ N, v = .iface 203 (.pointer (some ⟨N, 0, none⟩)))) ∧ Below w.heap.size w w' := by
 have H : Calls Tryz.prog 171 #[.string t, .int .i64 16, .int .i64 64] w fun e w' => (∃ x v, e = .returned (.tuple #[.int .u64 x, v]) ∧ (v = .nilIface ∨ v = .iface 201 (.int .i64 1) ∨ v = .iface 201 (.int .i64 2))) ∧ Below w.heap.size w w' := by
  by_cases h0 : t.size = 0
  ·have e : t = ⟨#[]⟩ := by
    rcases t with ⟨⟨l⟩⟩
    have : l = [] := List.length_eq_zero_iff.1 h0
    rw [this]
   rw [e]
   refine (Tryz.internal_strconv_ParseUint_empty 16 64 w).mono fun e w' ⟨h1, h2⟩ => ⟨⟨_, _, h1, by simp⟩, h2 ▸ Below.refl _ _⟩
  ·exact uint16_some t h0 hmax w
 go_enter Tryz.func154, Tryz.ntmps154
 go_wp2_with fail
 refine H.mono ?_
 rintro e w' ⟨⟨x, v, rfl, hv⟩, hb⟩
 have hE' := hE.below hb
 obtain ⟨⟨e2, c2, k2⟩, e3, c3, k3⟩ := hE'
 rcases hv with rfl | rfl | rfl
 ·go_wp2_with fail
  go_ret2
  exact ⟨⟨_, _, rfl, Or.inl rfl⟩, hb⟩
 ·go_wp2_with fail
  refine (Tryz.strconv_toError_range _ t 16 64 e3 w' (by omega) c3 k3).mono ?_
  rintro e w2 ⟨N, rfl, _, _, hb2⟩
  go_wp2_with fail
  go_ret2
  exact ⟨⟨_, _, rfl, Or.inr ⟨N, rfl⟩⟩, stepB hb hb2⟩
 ·go_wp2_with fail
  refine (Tryz.strconv_toError_syntax _ t 16 64 e2 w' (by omega) c2 k2).mono ?_
  rintro e w2 ⟨N, rfl, _, _, hb2⟩
  go_wp2_with fail
  go_ret2
  exact ⟨⟨_, _, rfl, Or.inr ⟨N, rfl⟩⟩, stepB hb hb2⟩
theorem intForm_any (s : ByteArray) (w : World) :
  Calls Tryz.prog 156 #[.string s] w fun e w' => e = .returned (.bool (intF s.data.toList)) ∧ Below w.heap.size w w' := by
 by_cases hs : s = ⟨#[48]⟩
 ·subst hs
  exact (intForm_zero w).mono fun e w' ⟨h1, h2⟩ => ⟨h1, h2 ▸ Below.refl _ _⟩
 ·refine (intForm_other s _ hs rfl w).mono fun e w' ⟨h1, h2⟩ => ⟨?_, h2⟩
  rw [h1]
  have : (s.data.toList == [48]) = false := by
   refine beq_eq_false_iff_ne.2 fun e => hs ?_
   rcases s with ⟨⟨l⟩⟩
   have e' : l = [48] := e
   rw [e']
  unfold intF
  rw [this]
  rfl
theorem parseFloat_good (d : ByteArray) (hl : d.size = 16) (hall : ∀ c ∈ d.data.toList, isHex c = true) (w : World) :
  Calls Tryz.prog 130 #[.string d] w fun e w' => e = .returned (.tuple #[.agg #[.bool true, .int .u64 (hexN 0 d.data.toList : Nat)], .int .i64 0]) ∧ Below w.heap.size w w' := by
 have hp := fun W => puint_good d hl hall W
 have hm := fun W => madeOf_any d hexB W (by decide) hex_small
 rw [(madeOf_hex _).2 hall] at hm
 have hl' : (d.size : Int) = 16 := by omega
 generalize hexN 0 d.data.toList = n at hp ⊢
 clear hl hall
 go_enter Tryz.func130, Tryz.ntmps130
 go_wp2_with fail
 have hal : Below w.heap.size w (w.alloc (.cells #[.bool false, .int .u64 0] 39)) := Br.alloc Nr _
 have c0 : (w.alloc (.cells #[.bool false, .int .u64 0] 39)).cell? ⟨w.heap.size, 0, none⟩ = some (.bool false) := by simp
 have c1 : (w.alloc (.cells #[.bool false, .int .u64 0] 39)).cell? ⟨w.heap.size, 1, none⟩ = some (.int .u64 0) := by simp
 have z0 : (w.alloc (.cells #[.bool false, .int .u64 0] 39)).frozen? ⟨w.heap.size, 0, none⟩ = false := by simp
 have z1 : (w.alloc (.cells #[.bool false, .int .u64 0] 39)).frozen? ⟨w.heap.size, 1, none⟩ = false := by simp
 have ls : w.heap.size < (w.alloc (.cells #[.bool false, .int .u64 0] 39)).heap.size := by simp
 generalize (w.alloc (.cells #[.bool false, .int .u64 0] 39)) = w0 at *
 refine (hp _).mono ?_
 rintro e w1 ⟨rfl, hb⟩
 replace c0 := cell_later hb c0
 replace c1 := cell_later hb c1
 replace z0 := (hb.frozen (p := ⟨w.heap.size, 0, none⟩) ls).trans z0
 replace z1 := (hb.frozen (p := ⟨w.heap.size, 1, none⟩) ls).trans z1
 replace hal := hal.trans (hb.mono (Nat.le_of_lt ls))
 replace ls := Nat.lt_of_lt_of_le ls hb.size
 clear hb
 go_wp2_with fail
 refine (hm _).mono ?_
 rintro e w2 ⟨rfl, hb⟩
 replace c0 := cell_later hb c0
 replace c1 := cell_later hb c1
 replace z0 := (hb.frozen (p := ⟨w.heap.size, 0, none⟩) ls).trans z0
 replace z1 := (hb.frozen (p := ⟨w.heap.size, 1, none⟩) ls).trans z1
 replace hal := hal.trans (hb.mono (Nat.le_of_lt ls))
 replace ls := Nat.lt_of_lt_of_le ls hb.size
 clear hb
 go_wp2_with fail
 refine bodyPost_ret (v := .tuple #[.agg #[.bool true, .int .u64 (n : Nat)], .int .i64 0]) (by simp [results, Tryz.results130, go_sem, c0, c1]) rfl ⟨rfl, (hal.setCell Nr _).setCell Nr _⟩
theorem parseFloat_bad (d : ByteArray) (hmax : d.size ≤ 140737488355328) (hbad : ¬ (d.size = 16 ∧ ∀ c ∈ d.data.toList, isHex c = true)) (w : World) (hE : EE w) :
  Calls Tryz.prog 130 #[.string d] w fun e w' => e = .returned (.tuple #[.agg #[.bool false, .int .u64 0], .int .i64 3]) ∧ Below w.heap.size w w' := by
 have hm := fun W => madeOf_any d hexB W (by decide) hex_small
 go_enter Tryz.func130, Tryz.ntmps130
 go_wp2_with fail
 replace hE := hE.below (Br.alloc Nr (.cells #[.bool false, .int .u64 0] 39))
 have hal : Below w.heap.size w (w.alloc (.cells #[.bool false, .int .u64 0] 39)) := Br.alloc Nr _
 have c0 : (w.alloc (.cells #[.bool false, .int .u64 0] 39)).cell? ⟨w.heap.size, 0, none⟩ = some (.bool false) := by simp
 have c1 : (w.alloc (.cells #[.bool false, .int .u64 0] 39)).cell? ⟨w.heap.size, 1, none⟩ = some (.int .u64 0) := by simp
 have z0 : (w.alloc (.cells #[.bool false, .int .u64 0] 39)).frozen? ⟨w.heap.size, 0, none⟩ = false := by simp
 have z1 : (w.alloc (.cells #[.bool false, .int .u64 0] 39)).frozen? ⟨w.heap.size, 1, none⟩ = false := by simp
 have ls : w.heap.size < (w.alloc (.cells #[.bool false, .int .u64 0] 39)).heap.size := by simp
 generalize (w.alloc (.cells #[.bool false, .int .u64 0] 39)) = w0 at *
 refine (puint_some d hmax _ hE).mono ?_
 rintro e w1 ⟨⟨x, v, rfl, hv⟩, hb⟩
 replace c0 := cell_later hb c0
 replace c1 := cell_later hb c1
 replace z0 := (hb.frozen (p := ⟨w.heap.size, 0, none⟩) ls).trans z0
 replace z1 := (hb.frozen (p := ⟨w.heap.size, 1, none⟩) ls).trans z1
 replace hal := hal.trans (hb.mono (Nat.le_of_lt ls))
 replace ls := Nat.lt_of_lt_of_le ls hb.size
 clear hb
 clear hE hmax
 rcases hv with rfl | ⟨M, rfl⟩
 ·by_cases hl : d.size = 16
  ·have hl' : (d.size : Int) = 16 := by omega
   have hf : madeOf d.data.toList hexB.data.toList = false := Bool.eq_false_iff.2 fun e => hbad ⟨hl, (madeOf_hex _).1 e⟩
   rw [hf] at hm
   clear hl hbad hf
   go_wp2_with fail
   refine (hm _).mono ?_
   rintro e w2 ⟨rfl, hb⟩
   replace c0 := cell_later hb c0
   replace c1 := cell_later hb c1
   replace z0 := (hb.frozen (p := ⟨w.heap.size, 0, none⟩) ls).trans z0
   replace z1 := (hb.frozen (p := ⟨w.heap.size, 1, none⟩) ls).trans z1
   replace hal := hal.trans (hb.mono (Nat.le_of_lt ls))
   replace ls := Nat.lt_of_lt_of_le ls hb.size
   clear hb
   go_wp2_with fail
   refine bodyPost_ret (v := .tuple #[.agg #[.bool false, .int .u64 0], .int .i64 3]) (by simp [results, Tryz.results130, go_sem, c0, c1]) rfl ⟨rfl, (hal.setCell Nr _).setCell Nr _⟩
  ·have hl' : ¬ (d.size : Int) = 16 := by omega
   clear hl hbad hm
   go_wp2_with fail
   refine bodyPost_ret (v := .tuple #[.agg #[.bool false, .int .u64 0], .int .i64 3]) (by simp [results, Tryz.results130, go_sem, c0, c1]) rfl ⟨rfl, (hal.setCell Nr _).setCell Nr _⟩
 ·clear hbad hm
  go_wp2_with fail
  refine bodyPost_ret (v := .tuple #[.agg #[.bool false, .int .u64 0], .int .i64 3]) (by simp [results, Tryz.results130, go_sem, c0, c1]) rfl ⟨rfl, (hal.setCell Nr _).setCell Nr _⟩
theorem parseInt_noform (s : ByteArray) (hf : intF s.data.toList = false) (w : World) :
  Calls Tryz.prog 131 #[.string s] w fun e w' => e = .returned (.tuple #[.agg #[.bool false, .int .u64 0], .int .i64 3]) ∧ Below w.heap.size w w' := by
 have hi := fun W => intForm_any s W
 rw [hf] at hi
 clear hf
 go_enter Tryz.func131, Tryz.ntmps131
 go_wp2_with fail
 have hal : Below w.heap.size w (w.alloc (.cells #[.bool false, .int .u64 0] 39)) := Br.alloc Nr _
 have c0 : (w.alloc (.cells #[.bool false, .int .u64 0] 39)).cell? ⟨w.heap.size, 0, none⟩ = some (.bool false) := by simp
 have c1 : (w.alloc (.cells #[.bool false, .int .u64 0] 39)).cell? ⟨w.heap.size, 1, none⟩ = some (.int .u64 0) := by simp
 have z0 : (w.alloc (.cells #[.bool false, .int .u64 0] 39)).frozen? ⟨w.heap.size, 0, none⟩ = false := by simp
 have z1 : (w.alloc (.cells #[.bool false, .int .u64 0] 39)).frozen? ⟨w.heap.size, 1, none⟩ = false := by simp
 have ls : w.heap.size < (w.alloc (.cells #[.bool false, .int .u64 0] 39)).heap.size := by simp
 generalize (w.alloc (.cells #[.bool false, .int .u64 0] 39)) = w0 at *
 refine (hi _).mono ?_
 rintro e w1 ⟨rfl, hb⟩
 replace c0 := cell_later hb c0
 replace c1 := cell_later hb c1
 replace z0 := (hb.frozen (p := ⟨w.heap.size, 0, none⟩) ls).trans z0
 replace z1 := (hb.frozen (p := ⟨w.heap.size, 1, none⟩) ls).trans z1
 replace hal := hal.trans (hb.mono (Nat.le_of_lt ls))
 replace ls := Nat.lt_of_lt_of_le ls hb.size
 clear hb
 go_wp2_with fail
 refine bodyPost_ret (v := .tuple #[.agg #[.bool false, .int .u64 0], .int .i64 3]) (by simp [results, Tryz.results131, go_sem, c0, c1]) rfl ⟨rfl, (hal.setCell Nr _).setCell Nr _⟩
theorem parseInt_ok (s : ByteArray) (hmax : s.size ≤ 140737488355328) (v : Int) (hf : intF s.data.toList = true) (hv : parseIntB 64 s.data.toList = .ok v) (w : World) :
  Calls Tryz.prog 131 #[.string s] w fun e w' => e = .returned (.tuple #[.agg #[.bool false, .int .u64 (U v)], .int .i64 0]) ∧ Below w.heap.size w w' := by
 have hi := fun W => intForm_any s W
 rw [hf] at hi
 have hp : ∀ W, Calls Tryz.prog 157 #[.string s, .int .i64 10, .int .i64 64] W fun e w' => e = .returned (.tuple #[.int .i64 v, .nilIface]) ∧ Below W.heap.size W w' := fun W =>
  (Tryz.strconv_ParseInt_10_at64_ok s (by omega) v hv W).mono fun e w' ⟨h1, h2⟩ => ⟨h1, by
   rcases h2 with rfl | ⟨t, rfl⟩
   ·exact Below.refl _ _
   ·exact bytes_below W t⟩
 clear hf hv
 go_enter Tryz.func131, Tryz.ntmps131
 go_wp2_with fail
 have hal : Below w.heap.size w (w.alloc (.cells #[.bool false, .int .u64 0] 39)) := Br.alloc Nr _
 have c0 : (w.alloc (.cells #[.bool false, .int .u64 0] 39)).cell? ⟨w.heap.size, 0, none⟩ = some (.bool false) := by simp
 have c1 : (w.alloc (.cells #[.bool false, .int .u64 0] 39)).cell? ⟨w.heap.size, 1, none⟩ = some (.int .u64 0) := by simp
 have z0 : (w.alloc (.cells #[.bool false, .int .u64 0] 39)).frozen? ⟨w.heap.size, 0, none⟩ = false := by simp
 have z1 : (w.alloc (.cells #[.bool false, .int .u64 0] 39)).frozen? ⟨w.heap.size, 1, none⟩ = false := by simp
 have ls : w.heap.size < (w.alloc (.cells #[.bool false, .int .u64 0] 39)).heap.size := by simp
 generalize (w.alloc (.cells #[.bool false, .int .u64 0] 39)) = w0 at *
 refine (hi _).mono ?_
 rintro e w1 ⟨rfl, hb⟩
 replace c0 := cell_later hb c0
 replace c1 := cell_later hb c1
 replace z0 := (hb.frozen (p := ⟨w.heap.size, 0, none⟩) ls).trans z0
 replace z1 := (hb.frozen (p := ⟨w.heap.size, 1, none⟩) ls).trans z1
 replace hal := hal.trans (hb.mono (Nat.le_of_lt ls))
 replace ls := Nat.lt_of_lt_of_le ls hb.size
 clear hb
 go_wp2_with fail
 refine (hp _).mono ?_
 rintro e w2 ⟨rfl, hb⟩
 replace c0 := cell_later hb c0
 replace c1 := cell_later hb c1
 replace z0 := (hb.frozen (p := ⟨w.heap.size, 0, none⟩) ls).trans z0
 replace z1 := (hb.frozen (p := ⟨w.heap.size, 1, none⟩) ls).trans z1
 replace hal := hal.trans (hb.mono (Nat.le_of_lt ls))
 replace ls := Nat.lt_of_lt_of_le ls hb.size
 clear hb
 go_wp2_with fail
 refine (int_U v _).mono ?_
 rintro e w3 ⟨rfl, hb⟩
 replace c0 := cell_later hb c0
 replace c1 := cell_later hb c1
 replace z0 := (hb.frozen (p := ⟨w.heap.size, 0, none⟩) ls).trans z0
 replace z1 := (hb.frozen (p := ⟨w.heap.size, 1, none⟩) ls).trans z1
 replace hal := hal.trans (hb.mono (Nat.le_of_lt ls))
 replace ls := Nat.lt_of_lt_of_le ls hb.size
 clear hb
 go_wp2_with fail
 refine bodyPost_ret (v := .tuple #[.agg #[.bool false, .int .u64 (U v)], .int .i64 0]) (by simp [results, Tryz.results131, go_sem, c0, c1]) rfl ⟨rfl, (hal.setCell Nr _).setCell Nr _⟩
theorem parseInt_range (s : ByteArray) (hmax : s.size ≤ 140737488355328) (hf : intF s.data.toList = true) (hv : parseIntB 64 s.data.toList = .range) (w : World) (hE : EE w) :
  Calls Tryz.prog 131 #[.string s] w fun e w' => e = .returned (.tuple #[.agg #[.bool false, .int .u64 0], .int .i64 1]) ∧ Below w.heap.size w w' := by
 have hi := fun W => intForm_any s W
 rw [hf] at hi
 have hp : ∀ W, EE W → Calls Tryz.prog 157 #[.string s, .int .i64 10, .int .i64 64] W fun e w' => (∃ x M, e = .returned (.tuple #[.int .i64 x, .iface 203 (.pointer (some ⟨M, 0, none⟩))])) ∧ Below W.heap.size W w' := fun W hE => by
  obtain ⟨_, ev, k1, k2⟩ := hE
  exact (Tryz.strconv_ParseInt_10_at64_range s (by omega) hv ev W k1 k2).mono fun e w' ⟨M, h1, _, _, h2⟩ => ⟨⟨_, M, h1⟩, h2⟩
 clear hf hv
 go_enter Tryz.func131, Tryz.ntmps131
 go_wp2_with fail
 replace hE := hE.below (Br.alloc Nr (.cells #[.bool false, .int .u64 0] 39))
 have hal : Below w.heap.size w (w.alloc (.cells #[.bool false, .int .u64 0] 39)) := Br.alloc Nr _
 have c0 : (w.alloc (.cells #[.bool false, .int .u64 0] 39)).cell? ⟨w.heap.size, 0, none⟩ = some (.bool false) := by simp
 have c1 : (w.alloc (.cells #[.bool false, .int .u64 0] 39)).cell? ⟨w.heap.size, 1, none⟩ = some (.int .u64 0) := by simp
 have z0 : (w.alloc (.cells #[.bool false, .int .u64 0] 39)).frozen? ⟨w.heap.size, 0, none⟩ = false := by simp
 have z1 : (w.alloc (.cells #[.bool false, .int .u64 0] 39)).frozen? ⟨w.heap.size, 1, none⟩ = false := by simp
 have ls : w.heap.size < (w.alloc (.cells #[.bool false, .int .u64 0] 39)).heap.size := by simp
 generalize (w.alloc (.cells #[.bool false, .int .u64 0] 39)) = w0 at *
 refine (hi _).mono ?_
 rintro e w1 ⟨rfl, hb⟩
 replace hE := hE.below hb
 replace c0 := cell_later hb c0
 replace c1 := cell_later hb c1
 replace z0 := (hb.frozen (p := ⟨w.heap.size, 0, none⟩) ls).trans z0
 replace z1 := (hb.frozen (p := ⟨w.heap.size, 1, none⟩) ls).trans z1
 replace hal := hal.trans (hb.mono (Nat.le_of_lt ls))
 replace ls := Nat.lt_of_lt_of_le ls hb.size
 clear hb
 go_wp2_with fail
 refine (hp _ hE).mono ?_
 rintro e w2 ⟨⟨x, M, rfl⟩, hb⟩
 replace c0 := cell_later hb c0
 replace c1 := cell_later hb c1
 replace z0 := (hb.frozen (p := ⟨w.heap.size, 0, none⟩) ls).trans z0
 replace z1 := (hb.frozen (p := ⟨w.heap.size, 1, none⟩) ls).trans z1
 replace hal := hal.trans (hb.mono (Nat.le_of_lt ls))
 replace ls := Nat.lt_of_lt_of_le ls hb.size
 clear hb
 clear hE
 go_wp2_with fail
 refine bodyPost_ret (v := .tuple #[.agg #[.bool false, .int .u64 0], .int .i64 1]) (by simp [results, Tryz.results131, go_sem, c0, c1]) rfl ⟨rfl, (hal.setCell Nr _).setCell Nr _⟩
def parseL (l : List UInt8) : Bool × Int × Int :=
 if Lib.hasPrefix l [48, 102] = true then
  (if (l.drop 2).length = 16 ∧ ∀ c ∈ l.drop 2, isHex c = true then (true, ((hexN 0 (l.drop 2) : Nat) : Int), 0) else (false, 0, 3))
 else if intF l = true then (match parseIntB 64 l with | .ok v => (false, U v, 0) | _ => (false, 0, 1)) else (false, 0, 3)
theorem parseFloat_any (d : ByteArray) (hmax : d.size ≤ 140737488355328) (w : World) (hE : EE w) (b : Bool) (x e0 : Int) (hr : (if d.data.toList.length = 16 ∧ ∀ c ∈ d.data.toList, isHex c = true then (true, ((hexN 0 d.data.toList : Nat) : Int), (0 : Int)) else (false, 0, 3)) = (b, x, e0)) :
  Calls Tryz.prog 130 #[.string d] w fun e w' => e = .returned (.tuple #[.agg #[.bool b, .int .u64 x], .int .i64 e0]) ∧ Below w.heap.size w w' := by
 have hz := Lib.size_eq d
 split at hr
 ·rename_i h
  simp only [Prod.mk.injEq] at hr
  obtain ⟨rfl, rfl, rfl⟩ := hr
  exact parseFloat_good d (by omega) h.2 w
 ·rename_i h
  simp only [Prod.mk.injEq] at hr
  obtain ⟨rfl, rfl, rfl⟩ := hr
  exact parseFloat_bad d hmax (fun h' => h ⟨by omega, h'.2⟩) w hE
theorem parseInt_any (s : ByteArray) (hmax : s.size ≤ 140737488355328) (w : World) (hE : EE w) (b : Bool) (x e0 : Int) (hr : (if intF s.data.toList = true then (match parseIntB 64 s.data.toList with | .ok v => (false, U v, (0 : Int)) | _ => (false, 0, 1)) else (false, 0, 3)) = (b, x, e0)) :
  Calls Tryz.prog 131 #[.string s] w fun e w' => e = .returned (.tuple #[.agg #[.bool b, .int .u64 x], .int .i64 e0]) ∧ Below w.heap.size w w' := by
 split at hr
 ·rename_i hf
  cases hv : parseIntB 64 s.data.toList with
  | ok v =>
   rw [hv] at hr
   simp only [Prod.mk.injEq] at hr
   obtain ⟨rfl, rfl, rfl⟩ := hr
   exact parseInt_ok s hmax v hf hv w
  | range =>
   rw [hv] at hr
   simp only [Prod.mk.injEq] at hr
   obtain ⟨rfl, rfl, rfl⟩ := hr
   exact parseInt_range s hmax hf hv w hE
  | _ =>
   have h := int_plain _ hf
   rw [hv] at h
   exact h.elim
 ·rename_i hf
  simp only [Prod.mk.injEq] at hr
  obtain ⟨rfl, rfl, rfl⟩ := hr
  exact parseInt_noform s (by simpa using hf) w
theorem parse_any (s : ByteArray) (hmax : s.size ≤ 140737488355328) (w : World) (hE : EE w) (b : Bool) (x e0 : Int) (hr : parseL s.data.toList = (b, x, e0)) :
  Calls Tryz.prog 105 #[.string s] w fun e w' => e = .returned (.tuple #[.agg #[.bool b, .int .u64 x], .int .i64 e0]) ∧ Below w.heap.size w w' := by
 have hc := fun W => Tryz.strings_CutPrefix s ⟨#[48, 102]⟩ W
 rw [show (⟨#[48, 102]⟩ : ByteArray).data.toList = [48, 102] from rfl] at hc
 unfold parseL at hr
 have hz := Lib.size_eq s
 replace hE := hE.below (Br.alloc Nr (.cells #[.bool false, .int .u64 0] 39))
 split at hr
 ·rename_i hp
  have ht : Lib.trimPrefix s.data.toList [48, 102] = s.data.toList.drop 2 := by unfold Lib.trimPrefix; rw [if_pos hp]; rfl
  rw [hp, ht] at hc
  obtain ⟨d, hd⟩ : ∃ d : ByteArray, d = ⟨(s.data.toList.drop 2).toArray⟩ := ⟨_, rfl⟩
  have hdl : d.data.toList = s.data.toList.drop 2 := by rw [hd]
  rw [← hd] at hc
  rw [← hdl] at hr
  have hz' := Lib.size_eq d
  have hf := fun W hE => parseFloat_any d (by rw [hz', hdl, List.length_drop]; omega) W hE b x e0 hr
  clear hr hd hdl hz hz' ht hp hmax
  go_enter Tryz.func105, Tryz.ntmps105
  go_wp2_with fail
  have hal : Below w.heap.size w (w.alloc (.cells #[.bool false, .int .u64 0] 39)) := Br.alloc Nr _
  have c0 : (w.alloc (.cells #[.bool false, .int .u64 0] 39)).cell? ⟨w.heap.size, 0, none⟩ = some (.bool false) := by simp
  have c1 : (w.alloc (.cells #[.bool false, .int .u64 0] 39)).cell? ⟨w.heap.size, 1, none⟩ = some (.int .u64 0) := by simp
  have z0 : (w.alloc (.cells #[.bool false, .int .u64 0] 39)).frozen? ⟨w.heap.size, 0, none⟩ = false := by simp
  have z1 : (w.alloc (.cells #[.bool false, .int .u64 0] 39)).frozen? ⟨w.heap.size, 1, none⟩ = false := by simp
  have ls : w.heap.size < (w.alloc (.cells #[.bool false, .int .u64 0] 39)).heap.size := by simp
  generalize (w.alloc (.cells #[.bool false, .int .u64 0] 39)) = w0 at *
  refine (hc _).mono ?_
  rintro e w1 ⟨rfl, rfl⟩
  go_wp2_with fail
  refine (hf _ hE).mono ?_
  rintro e w2 ⟨rfl, hb⟩
  replace c0 := cell_later hb c0
  replace c1 := cell_later hb c1
  replace z0 := (hb.frozen (p := ⟨w.heap.size, 0, none⟩) ls).trans z0
  replace z1 := (hb.frozen (p := ⟨w.heap.size, 1, none⟩) ls).trans z1
  replace hal := hal.trans (hb.mono (Nat.le_of_lt ls))
  replace ls := Nat.lt_of_lt_of_le ls hb.size
  clear hb
  go_wp2_with fail
  refine bodyPost_ret (v := .tuple #[.agg #[.bool b, .int .u64 x], .int .i64 e0]) (by simp [results, Tryz.results105, go_sem, c0, c1]) rfl ⟨rfl, (hal.setCell Nr _).setCell Nr _⟩
 ·rename_i hp
  rw [Bool.eq_false_iff.2 hp] at hc
  have hf := fun W hE => parseInt_any s hmax W hE b x e0 hr
  clear hr hz hp hmax
  generalize Lib.trimPrefix s.data.toList [48, 102] = d at hc
  go_enter Tryz.func105, Tryz.ntmps105
  go_wp2_with fail
  have hal : Below w.heap.size w (w.alloc (.cells #[.bool false, .int .u64 0] 39)) := Br.alloc Nr _
  have c0 : (w.alloc (.cells #[.bool false, .int .u64 0] 39)).cell? ⟨w.heap.size, 0, none⟩ = some (.bool false) := by simp
  have c1 : (w.alloc (.cells #[.bool false, .int .u64 0] 39)).cell? ⟨w.heap.size, 1, none⟩ = some (.int .u64 0) := by simp
  have z0 : (w.alloc (.cells #[.bool false, .int .u64 0] 39)).frozen? ⟨w.heap.size, 0, none⟩ = false := by simp
  have z1 : (w.alloc (.cells #[.bool false, .int .u64 0] 39)).frozen? ⟨w.heap.size, 1, none⟩ = false := by simp
  have ls : w.heap.size < (w.alloc (.cells #[.bool false, .int .u64 0] 39)).heap.size := by simp
  generalize (w.alloc (.cells #[.bool false, .int .u64 0] 39)) = w0 at *
  refine (hc _).mono ?_
  rintro e w1 ⟨rfl, rfl⟩
  go_wp2_with fail
  refine (hf _ hE).mono ?_
  rintro e w2 ⟨rfl, hb⟩
  replace c0 := cell_later hb c0
  replace c1 := cell_later hb c1
  replace z0 := (hb.frozen (p := ⟨w.heap.size, 0, none⟩) ls).trans z0
  replace z1 := (hb.frozen (p := ⟨w.heap.size, 1, none⟩) ls).trans z1
  replace hal := hal.trans (hb.mono (Nat.le_of_lt ls))
  replace ls := Nat.lt_of_lt_of_le ls hb.size
  clear hb
  go_wp2_with fail
  refine bodyPost_ret (v := .tuple #[.agg #[.bool b, .int .u64 x], .int .i64 e0]) (by simp [results, Tryz.results105, go_sem, c0, c1]) rfl ⟨rfl, (hal.setCell Nr _).setCell Nr _⟩
end Go.Proofs.YtbnmmbjajheedaaGreatDoor
namespace Go.Proofs.YtbnmmbjajheedaaGreatDoor
set_option maxHeartbeats 64000000
set_option maxRecDepth 100000
open Go.RowKit Go.Lib
structure Tk where
 k : Int
 t : List UInt8
 f : Bool
 x : Int
def Tk.zero : Tk := ⟨0, [], false, 0⟩
def runsB : ByteArray := ⟨#[97, 98, 99, 100, 101, 102, 103, 104, 105, 106, 107, 108, 109, 110, 111, 112, 113, 114, 115, 116, 117, 118, 119, 120, 121, 122, 65, 66, 67, 68, 69, 70, 71, 72, 73, 74, 75, 76, 77, 78, 79, 80, 81, 82, 83, 84, 85, 86, 87, 88, 89, 90, 48, 49, 50, 51, 52, 53, 54, 55, 56, 57, 95]⟩
def inRun (c : UInt8) : Bool := runsB.data.toList.contains c
def runL (l : List UInt8) : List UInt8 := l.takeWhile inRun
def markedL (l : List UInt8) : List UInt8 := l.take (l.length - (trimPrefix (l.drop 1) [45]).length + (runL (trimPrefix (l.drop 1) [45])).length)
def numT (t : List UInt8) : Tk × Int := if (parseL (trimPrefix t [35])).2.2 = 0 then (⟨3, t, (parseL (trimPrefix t [35])).1, (parseL (trimPrefix t [35])).2.1⟩, 0) else (.zero, (parseL (trimPrefix t [35])).2.2)
theorem runs_small : ∀ (j : Nat) b, runsB.data.toList[j]? = some b → b.toNat < 128 := ascii_of_all (by decide)
theorem take_drop {α : Type} (p : α → Bool) (l : List α) : l.take (l.length - (l.dropWhile p).length) = l.takeWhile p := by
 have h := List.takeWhile_append_dropWhile (p := p) (l := l)
 have hl := congrArg List.length h
 rw [List.length_append] at hl
 have e : l.length - (l.dropWhile p).length = (l.takeWhile p).length := by omega
 rw [e]
 exact (List.prefix_iff_eq_take.1 (List.takeWhile_prefix p)).symm
theorem run_trim (l : List UInt8) : l.take (l.length - (trimLeftS l runsB.data.toList).length) = runL l := take_drop inRun l
theorem trim_le (l cs : List UInt8) : (trimLeftS l cs).length ≤ l.length := (List.dropWhile_sublist _).length_le
theorem trimP_le (l p : List UInt8) : (trimPrefix l p).length ≤ l.length := by
 unfold trimPrefix
 split
 ·simp
 ·exact Nat.le_refl _
theorem run_le (l : List UInt8) : (runL l).length ≤ l.length := (List.takeWhile_sublist _).length_le
theorem head_list (s : ByteArray) (n : Nat) : (s.extract 0 n).data.toList = s.data.toList.take n := by simp [ByteArray.data_extract]
theorem tail_list (s : ByteArray) (k : Nat) : (s.extract k s.size).data.toList = s.data.toList.drop k := by
 have e : (s.extract k s.size).data.toList = (s.data.toList.drop k).take (s.size - k) := by simp [ByteArray.data_extract]
 rw [e, List.take_of_length_le]
 rw [List.length_drop, size_eq s]
 omega
theorem back_list (l : List UInt8) : (⟨l.toArray⟩ : ByteArray).data.toList = l := by simp
theorem back_size (l : List UInt8) : (⟨l.toArray⟩ : ByteArray).size = l.length := by simp [ByteArray.size]
def TextSaid (l : List UInt8) (w : World) (e : Ending) (w' : World) : Prop := ∃ r : ByteArray, e = .returned (.string r) ∧ r.data.toList = l ∧ Below w.heap.size w w'
theorem run_any (s : ByteArray) (hs : s.size ≤ 140737488355328) (w : World) : Calls Tryz.prog 72 #[.string s] w (TextSaid (runL s.data.toList) w) := by
 have hz := size_eq s
 have hT := Hd (fun W => trimLeft_laid s runsB W (by decide) runs_small)
 have hle := trim_le s.data.toList runsB.data.toList
 have hrt := run_trim s.data.toList
 obtain ⟨d, hd⟩ : ∃ d : ByteArray, d = ⟨(trimLeftS s.data.toList runsB.data.toList).toArray⟩ := ⟨_, rfl⟩
 have hdz : d.size = (trimLeftS s.data.toList runsB.data.toList).length := by rw [hd, back_size]
 have HR : Hid ((s.extract 0 (s.size - d.size)).data.toList = runL s.data.toList) := by
  refine Hd ?_
  rw [head_list, hdz, hz]
  exact hrt
 have hdle : d.size ≤ s.size := by omega
 have e1 : IntKind.i64.wrap ((s.size : Int) - (d.size : Int)) = ((s.size - d.size : Nat) : Int) := by rw [IntKind.wrap_i64]; omega
 have hD := Hd hd
 clear hd hdz hrt hle hz
 go_enter Tryz.func72, Tryz.ntmps72
 go_wp2_with fail
 refine (hT.out w).mono ?_
 rintro e w2 ⟨rfl, hb⟩
 rw [← hD.out]
 have HB := Hd hb
 clear hb
 have b1 : (0 : Int) ≤ ((s.size - d.size : Nat) : Int) := by omega
 have b2 : ((s.size - d.size : Nat) : Int) ≤ (s.size : Int) := by omega
 go_wp2_with fail
 go_ret
 exact ⟨_, rfl, HR.out, HB.out⟩
theorem marked_any (s : ByteArray) (hs : s.size ≤ 140737488355328) (h1 : 1 ≤ s.size) (w : World) : Calls Tryz.prog 71 #[.string s] w (TextSaid (markedL s.data.toList) w) := by
 have hz := size_eq s
 have ht1 := tail_list s 1
 obtain ⟨s1, hs1⟩ : ∃ s1 : ByteArray, s.extract 1 s.size = s1 := ⟨_, rfl⟩
 rw [hs1] at ht1
 have hT := Hd (fun W => Tryz.strings_TrimPrefix s1 ⟨#[45]⟩ W)
 obtain ⟨d, hd⟩ : ∃ d : ByteArray, d = ⟨(trimPrefix s1.data.toList [45]).toArray⟩ := ⟨_, rfl⟩
 have hdl : d.data.toList = trimPrefix (s.data.toList.drop 1) [45] := by rw [hd, back_list, ht1]
 have hdle : d.size ≤ s.size - 1 := by
  have := trimP_le s1.data.toList [45]
  rw [size_eq d, hd, back_list]
  rw [ht1, List.length_drop] at this
  rw [ht1]
  omega
 have hrun := Hd (run_any d (by omega))
 have hrle := run_le d.data.toList
 have hdz := size_eq d
 have hm : markedL s.data.toList = s.data.toList.take (s.size - d.size + (runL d.data.toList).length) := by
  unfold markedL
  rw [← hdl, ← hz, ← hdz]
 have HM := Hd hm
 have hD := Hd hd
 have HS1 := Hd hs1
 have c1 : (1 : Int) ≤ (s.size : Int) := by omega
 have ed : IntKind.i64.wrap ((s.size : Int) - (d.size : Int)) = ((s.size - d.size : Nat) : Int) := by rw [IntKind.wrap_i64]; omega
 generalize hrl : (runL d.data.toList).length = rl at *
 have er : IntKind.i64.wrap (((s.size - d.size : Nat) : Int) + (rl : Int)) = ((s.size - d.size + rl : Nat) : Int) := by rw [IntKind.wrap_i64]; omega
 have b1 : (0 : Int) ≤ ((s.size - d.size + rl : Nat) : Int) := by omega
 have b2 : ((s.size - d.size + rl : Nat) : Int) ≤ (s.size : Int) := by omega
 have HRL := Hd hrl
 clear hz ht1 hd hdl hm hdz hrl
 go_enter Tryz.func71, Tryz.ntmps71
 go_wp2_with fail
 refine (hT.out w).mono ?_
 rintro e w2 ⟨rfl, rfl⟩
 rw [← hD.out]
 clear hs1
 go_wp2_with fail
 refine (hrun.out w2).mono ?_
 rintro e w3 ⟨r, rfl, hr, hb⟩
 have hrz : r.size = rl := by rw [size_eq r, hr, HRL.out]
 have HB := Hd (Ai hb hr)
 clear hb hr
 subst hrz
 go_wp2_with fail
 go_ret
 exact ⟨_, rfl, by rw [head_list, HM.out], HB.out.1⟩
theorem clone_any (s : ByteArray) (hs : s.size ≤ 140737488355328) (w : World) : Calls Tryz.prog 36 #[.string s] w fun e w' => e = .returned (.string s) ∧ Below w.heap.size w w' := by
 have h1 := Hd (fun W => Tryz.stringslite_Clone s W (by omega))
 go_enter Tryz.func36, Tryz.ntmps36
 go_wp2_with fail
 refine (h1.out w).mono ?_
 rintro e w2 ⟨rfl, hb⟩
 have HB := Hd hb
 clear hb
 go_wp2_with fail
 go_ret
 exact ⟨rfl, HB.out⟩
def vTk (t : Tk) (line : Int) (b : ByteArray) : Value := .agg #[.int .i64 t.k, .string b, .bool t.f, .int .u64 t.x, .int .i64 line]
def TkSaid (r : Tk × Int) (w : World) (e : Ending) (w' : World) : Prop := ∃ b : ByteArray, e = .returned (.tuple #[vTk r.1 0 b, .int .i64 r.2]) ∧ b.data.toList = r.1.t ∧ Below w.heap.size w w'
theorem set5 {W : World} {b : Nat} {u0 u1 u2 u3 u4 : Value} (h0 : W.cell? ⟨b, 0, none⟩ = some u0) (h1 : W.cell? ⟨b, 1, none⟩ = some u1) (h2 : W.cell? ⟨b, 2, none⟩ = some u2) (h3 : W.cell? ⟨b, 3, none⟩ = some u3) (h4 : W.cell? ⟨b, 4, none⟩ = some u4) (v0 v1 v2 v3 v4 : Value) :
  (((((W.setCell ⟨b, 0, none⟩ v0).setCell ⟨b, 1, none⟩ v1).setCell ⟨b, 2, none⟩ v2).setCell ⟨b, 3, none⟩ v3).setCell ⟨b, 4, none⟩ v4).cell? ⟨b, 0, none⟩ = some v0 ∧
  (((((W.setCell ⟨b, 0, none⟩ v0).setCell ⟨b, 1, none⟩ v1).setCell ⟨b, 2, none⟩ v2).setCell ⟨b, 3, none⟩ v3).setCell ⟨b, 4, none⟩ v4).cell? ⟨b, 1, none⟩ = some v1 ∧
  (((((W.setCell ⟨b, 0, none⟩ v0).setCell ⟨b, 1, none⟩ v1).setCell ⟨b, 2, none⟩ v2).setCell ⟨b, 3, none⟩ v3).setCell ⟨b, 4, none⟩ v4).cell? ⟨b, 2, none⟩ = some v2 ∧
  (((((W.setCell ⟨b, 0, none⟩ v0).setCell ⟨b, 1, none⟩ v1).setCell ⟨b, 2, none⟩ v2).setCell ⟨b, 3, none⟩ v3).setCell ⟨b, 4, none⟩ v4).cell? ⟨b, 3, none⟩ = some v3 ∧
  (((((W.setCell ⟨b, 0, none⟩ v0).setCell ⟨b, 1, none⟩ v1).setCell ⟨b, 2, none⟩ v2).setCell ⟨b, 3, none⟩ v3).setCell ⟨b, 4, none⟩ v4).cell? ⟨b, 4, none⟩ = some v4 := by
 have o : ∀ (W : World) (i j : Nat) (v : Value), i ≠ j → (W.setCell ⟨b, i, none⟩ v).cell? ⟨b, j, none⟩ = W.cell? ⟨b, j, none⟩ := fun W i j v h => World.cell?_setCell_other _ _ _ _ (by first | (intro e; cases e; exact h rfl) | simp [h])
 refine ⟨?_, ?_, ?_, ?_, ?_⟩
 ·rw [o _ _ _ _ (by decide), o _ _ _ _ (by decide), o _ _ _ _ (by decide), o _ _ _ _ (by decide)]
  exact World.cell?_setCell_same _ _ _ h0
 ·rw [o _ _ _ _ (by decide), o _ _ _ _ (by decide), o _ _ _ _ (by decide)]
  exact World.cell?_setCell_same _ _ _ (u := u1) (by rw [o _ _ _ _ (by decide)]; exact h1)
 ·rw [o _ _ _ _ (by decide), o _ _ _ _ (by decide)]
  exact World.cell?_setCell_same _ _ _ (u := u2) (by rw [o _ _ _ _ (by decide), o _ _ _ _ (by decide)]; exact h2)
 ·rw [o _ _ _ _ (by decide)]
  exact World.cell?_setCell_same _ _ _ (u := u3) (by rw [o _ _ _ _ (by decide), o _ _ _ _ (by decide), o _ _ _ _ (by decide)]; exact h3)
 ·exact World.cell?_setCell_same _ _ _ (u := u4) (by rw [o _ _ _ _ (by decide), o _ _ _ _ (by decide), o _ _ _ _ (by decide), o _ _ _ _ (by decide)]; exact h4)
theorem below_set5 {n : Nat} {w W : World} (h : Below n w W) {b : Nat} (hb : n ≤ b) (v0 v1 v2 v3 v4 : Value) : Below n w (((((W.setCell ⟨b, 0, none⟩ v0).setCell ⟨b, 1, none⟩ v1).setCell ⟨b, 2, none⟩ v2).setCell ⟨b, 3, none⟩ v3).setCell ⟨b, 4, none⟩ v4) :=
 ((((h.setCell hb _).setCell hb _).setCell hb _).setCell hb _).setCell hb _
theorem number_any (s : ByteArray) (hs : s.size ≤ 140737488355328) (w : World) (hE : EE w) : Calls Tryz.prog 70 #[.string s] w (TkSaid (numT s.data.toList) w) := by
 have hT := Hd (fun W => Tryz.strings_TrimPrefix s ⟨#[35]⟩ W)
 obtain ⟨d, hd⟩ : ∃ d : ByteArray, d = ⟨(trimPrefix s.data.toList [35]).toArray⟩ := ⟨_, rfl⟩
 have hdl : d.data.toList = trimPrefix s.data.toList [35] := by rw [hd, back_list]
 have hdle : d.size ≤ 140737488355328 := by
  have := trimP_le s.data.toList [35]
  rw [size_eq d, hdl]
  rw [size_eq s] at hs
  omega
 obtain ⟨b, x, e0, hr⟩ : ∃ b x e0, parseL (trimPrefix s.data.toList [35]) = (b, x, e0) := ⟨_, _, _, rfl⟩
 have hP := Hd (fun W hE => parse_any d hdle W hE b x e0 (by rw [hdl]; exact hr))
 have hN : numT s.data.toList = if e0 = 0 then (⟨3, s.data.toList, b, x⟩, 0) else (.zero, e0) := by unfold numT; rw [hr]
 have hx0 := (Below.refl w.heap.size w).alloc Nr (.cells #[.int .i64 0, .string ⟨#[]⟩, .bool false, .int .u64 0, .int .i64 0] 41)
 have HE := Hd (Ai hx0 (hE.below hx0))
 have c0 : ∀ j, (w.alloc (.cells #[.int .i64 0, .string ⟨#[]⟩, .bool false, .int .u64 0, .int .i64 0] 41)).frozen? ⟨w.heap.size, j, none⟩ = false := fun j => by simp
 have k0 : ∀ j u, [Value.int .i64 0, .string ⟨#[]⟩, .bool false, .int .u64 0, .int .i64 0][j]? = some u → (w.alloc (.cells #[.int .i64 0, .string ⟨#[]⟩, .bool false, .int .u64 0, .int .i64 0] 41)).cell? ⟨w.heap.size, j, none⟩ = some u := fun j u hu => by
  have hj := (List.getElem?_eq_some_iff.1 hu).1
  simp only [List.length_cons, List.length_nil] at hj
  obtain rfl | rfl | rfl | rfl | rfl : j = 0 ∨ j = 1 ∨ j = 2 ∨ j = 3 ∨ j = 4 := by omega
  all_goals (simp at hu; subst hu; simp [go_sem])
 have HK0 := Hd k0
 have HC0 := Hd c0
 have hcl := Hd (clone_any s hs)
 have HN := Hd hN
 have hD := Hd hd
 clear hd hdl hr hN hx0 hE k0 c0
 go_enter Tryz.func70, Tryz.ntmps70
 go_upto_region 1 with fail
 have hz0 : (w.alloc (.cells #[.int .i64 0, .string ⟨#[]⟩, .bool false, .int .u64 0, .int .i64 0] 41)).heap.size = w.heap.size + 1 := by simp
 generalize (w.alloc (.cells #[.int .i64 0, .string ⟨#[]⟩, .bool false, .int .u64 0, .int .i64 0] 41)) = W at *
 go_wp2_with fail
 refine (hT.out W).mono ?_
 rintro e w2 ⟨rfl, rfl⟩
 rw [← hD.out]
 go_wp2_with fail
 refine (hP.out w2 HE.out.2).mono ?_
 rintro e w3 ⟨rfl, hb⟩
 have hs3 := hb.size
 have d0 := later' hb (HK0.out 0 _ rfl)
 have d1 := later' hb (HK0.out 1 _ rfl)
 have d2 := later' hb (HK0.out 2 _ rfl)
 have d3 := later' hb (HK0.out 3 _ rfl)
 have d4 := later' hb (HK0.out 4 _ rfl)
 have z0 : ∀ j, w3.frozen? ⟨w.heap.size, j, none⟩ = false := fun j => (World.frozen?_of_block (w := w2) (hb.block _ (by simp only; omega))).trans (HC0.out j)
 have hx := (Below.refl w3.heap.size w3).alloc Nr (.cells #[.bool b, .int .u64 x] 39)
 have HB := Hd (onB' (onB' HE.out.1 hb) hx)
 replace d0 := later' hx d0
 replace d1 := later' hx d1
 replace d2 := later' hx d2
 replace d3 := later' hx d3
 replace d4 := later' hx d4
 replace z0 : ∀ j, (w3.alloc (.cells #[.bool b, .int .u64 x] 39)).frozen? ⟨w.heap.size, j, none⟩ = false := fun j => (World.frozen?_of_block (w := w3) (hx.block _ (by simp only; omega))).trans (z0 j)
 have n0 : (w3.alloc (.cells #[.bool b, .int .u64 x] 39)).cell? ⟨w3.heap.size, 0, none⟩ = some (.bool b) := by simp [go_sem]
 have n1 : (w3.alloc (.cells #[.bool b, .int .u64 x] 39)).cell? ⟨w3.heap.size, 1, none⟩ = some (.int .u64 x) := by simp [go_sem]
 clear hb hx HK0 HC0
 by_cases g : e0 = 0
 ·subst g
  go_upto_region 4 with fail
  generalize (w3.alloc (.cells #[.bool b, .int .u64 x] 39)) = W4 at *
  have hd : Below W4.heap.size W4 W4.drew := ⟨rfl, rfl, rfl, Nat.le_refl _, fun _ _ => rfl⟩
  have lz : w.heap.size < W4.heap.size := Bl d0
  have HD := Hd (Ai (onB' HB.out hd) HB.out.size)
  replace d0 := later' hd d0
  replace d1 := later' hd d1
  replace d2 := later' hd d2
  replace d3 := later' hd d3
  replace d4 := later' hd d4
  replace n0 := later' hd n0
  replace n1 := later' hd n1
  replace z0 : ∀ j, W4.drew.frozen? ⟨w.heap.size, j, none⟩ = false := z0
  have HC := Hd (hcl.out W4.drew)
  have HZ := Hd z0
  have lz' : w.heap.size < W4.drew.heap.size := lz
  clear hd z0 HB
  go_region_with (go_at_call 36; refine HC.out.mono ?_; rintro e w7 ⟨rfl, hb7⟩; have p0 := later' hb7 d0; have p1 := later' hb7 d1; have p2 := later' hb7 d2; have p3 := later' hb7 d3; have p4 := later' hb7 d4; have m0 := later' hb7 n0; have m1 := later' hb7 n1; have y0 : ∀ j, w7.frozen? ⟨w.heap.size, j, none⟩ = false := (fun j => (World.frozen?_of_block (w := W4.drew) (hb7.block _ (by simp only; omega))).trans (HZ.out j)); have H7 := Hd (onB' HD.out.1 hb7); clear hb7)
  all_goals go_wp2_with fail
  all_goals
   obtain ⟨q0, q1, q2, q3, q4⟩ := set5 p0 p1 p2 p3 p4 (.int .i64 3) (.string s) (.bool b) (.int .u64 x) (.int .i64 0)
   refine bodyPost_ret (v := .tuple #[vTk ⟨3, s.data.toList, b, x⟩ 0 s, .int .i64 0]) (by simp [results, Tryz.results70, go_sem, q0, q1, q2, q3, q4, vTk]) rfl ?_
   rw [HN.out, if_pos trivial]
   exact ⟨s, rfl, rfl, below_set5 H7.out Nr _ _ _ _ _⟩
 ·have g2 : (e0 != 0) = true := by simpa using g
  have g3 : (e0 == 0) = false := by simpa using g
  go_upto_region 3 with fail
  generalize (w3.alloc (.cells #[.bool b, .int .u64 x] 39)) = W4 at *
  go_wp2_with fail
  obtain ⟨q0, q1, q2, q3, q4⟩ := set5 d0 d1 d2 d3 d4 (.int .i64 0) (.string ⟨#[]⟩) (.bool false) (.int .u64 0) (.int .i64 0)
  refine bodyPost_ret (v := .tuple #[vTk .zero 0 ⟨#[]⟩, .int .i64 e0]) (by simp [results, Tryz.results70, go_sem, q0, q1, q2, q3, q4, vTk, Tk.zero]) rfl ?_
  rw [HN.out, if_neg g]
  exact ⟨⟨#[]⟩, rfl, rfl, below_set5 HB.out Nr _ _ _ _ _⟩
def signsB : List (ByteArray × Int) := [(⟨#[61, 61, 46]⟩, 4), (⟨#[61, 61]⟩, 4), (⟨#[61]⟩, 6), (⟨#[45, 62]⟩, 6), (⟨#[45, 46]⟩, 4), (⟨#[45]⟩, 4), (⟨#[43, 46]⟩, 4), (⟨#[43]⟩, 4), (⟨#[42, 46]⟩, 4), (⟨#[42]⟩, 4), (⟨#[47, 46]⟩, 4), (⟨#[47]⟩, 4), (⟨#[60, 46]⟩, 4), (⟨#[60]⟩, 4), (⟨#[37]⟩, 4), (⟨#[40]⟩, 6), (⟨#[41]⟩, 6), (⟨#[123]⟩, 6), (⟨#[125]⟩, 6), (⟨#[59]⟩, 6), (⟨#[92]⟩, 6)]
def signL (l : List UInt8) : Option (ByteArray × Int) := signsB.find? fun x => hasPrefix l x.1.data.toList
def sgL : List Value := [.string ⟨#[61, 61, 46]⟩, .int .i64 4, .string ⟨#[61, 61]⟩, .int .i64 4, .string ⟨#[61]⟩, .int .i64 6, .string ⟨#[45, 62]⟩, .int .i64 6, .string ⟨#[45, 46]⟩, .int .i64 4, .string ⟨#[45]⟩, .int .i64 4, .string ⟨#[43, 46]⟩, .int .i64 4, .string ⟨#[43]⟩, .int .i64 4, .string ⟨#[42, 46]⟩, .int .i64 4, .string ⟨#[42]⟩, .int .i64 4, .string ⟨#[47, 46]⟩, .int .i64 4, .string ⟨#[47]⟩, .int .i64 4, .string ⟨#[60, 46]⟩, .int .i64 4, .string ⟨#[60]⟩, .int .i64 4, .string ⟨#[37]⟩, .int .i64 4, .string ⟨#[40]⟩, .int .i64 6, .string ⟨#[41]⟩, .int .i64 6, .string ⟨#[123]⟩, .int .i64 6, .string ⟨#[125]⟩, .int .i64 6, .string ⟨#[59]⟩, .int .i64 6, .string ⟨#[92]⟩, .int .i64 6]
def SG (w : World) : Prop := w.rangeAt 18 0 sgL
theorem SG.below {w w' : World} (h : SG w) (hb : Below w.heap.size w w') : SG w' := fun j v hv => later' hb (h j v hv)
theorem pick_sign (i : Nat) (h : i < 21) (W : World) : (Instr.index 145 (.agg sgL.toArray) (.int .i64 i)).run Tryz.prog W = .ok (.agg #[.string (signsB[i]'h).1, .int .i64 (signsB[i]'h).2]) W := by
 have h' : Tryz.prog.underlying 145 = some (.array 21 120) := by kernel_rfl
 obtain rfl | rfl | rfl | rfl | rfl | rfl | rfl | rfl | rfl | rfl | rfl | rfl | rfl | rfl | rfl | rfl | rfl | rfl | rfl | rfl | rfl : i = 0 ∨ i = 1 ∨ i = 2 ∨ i = 3 ∨ i = 4 ∨ i = 5 ∨ i = 6 ∨ i = 7 ∨ i = 8 ∨ i = 9 ∨ i = 10 ∨ i = 11 ∨ i = 12 ∨ i = 13 ∨ i = 14 ∨ i = 15 ∨ i = 16 ∨ i = 17 ∨ i = 18 ∨ i = 19 ∨ i = 20 := by omega
 all_goals simp [Instr.index, run_underlying h', asIntOf, part, Tryz.isAgg120, Tryz.sizeOf120, signsB, sgL, go_sem]
theorem find_drop (l : List UInt8) (k : Nat) (hk : k < 21) (h : signL l = (signsB.drop k).find? fun x => hasPrefix l x.1.data.toList) :
  (hasPrefix l (signsB[k]'hk).1.data.toList = true → signL l = some (signsB[k]'hk)) ∧ (hasPrefix l (signsB[k]'hk).1.data.toList = false → signL l = (signsB.drop (k + 1)).find? fun x => hasPrefix l x.1.data.toList) := by
 have hk' : k < signsB.length := hk
 rw [List.drop_eq_getElem_cons hk', List.find?_cons] at h
 constructor
 ·intro g
  have g' : hasPrefix l (signsB[k]'hk').1.data.toList = true := g
  rw [g'] at h
  exact h
 ·intro g
  have g' : hasPrefix l (signsB[k]'hk').1.data.toList = false := g
  rw [g'] at h
  exact h
def SignSaid (l : List UInt8) (w : World) (e : Ending) (w' : World) : Prop :=
 (∃ x, signL l = some x ∧ e = .returned (.tuple #[.agg #[.string x.1, .int .i64 x.2], .bool true]) ∧ Below w.heap.size w w') ∨ (signL l = none ∧ e = .returned (.tuple #[.agg #[.string ⟨#[]⟩, .int .i64 0], .bool false]) ∧ Below w.heap.size w w')
theorem set2 {W : World} {b : Nat} {u0 u1 : Value} (h0 : W.cell? ⟨b, 0, none⟩ = some u0) (h1 : W.cell? ⟨b, 1, none⟩ = some u1) (v0 v1 : Value) :
  ((W.setCell ⟨b, 0, none⟩ v0).setCell ⟨b, 1, none⟩ v1).cell? ⟨b, 0, none⟩ = some v0 ∧ ((W.setCell ⟨b, 0, none⟩ v0).setCell ⟨b, 1, none⟩ v1).cell? ⟨b, 1, none⟩ = some v1 := by
 have o : ∀ (W : World) (i j : Nat) (v : Value), i ≠ j → (W.setCell ⟨b, i, none⟩ v).cell? ⟨b, j, none⟩ = W.cell? ⟨b, j, none⟩ := fun W i j v h => World.cell?_setCell_other _ _ _ _ (by first | (intro e; cases e; exact h rfl) | simp [h])
 refine ⟨?_, ?_⟩
 ·rw [o _ _ _ _ (by decide)]
  exact World.cell?_setCell_same _ _ _ h0
 ·exact World.cell?_setCell_same _ _ _ (u := u1) (by rw [o _ _ _ _ (by decide)]; exact h1)
theorem sign_any (s : ByteArray) (w : World) (hS : SG w) : Calls Tryz.prog 69 #[.string s] w (SignSaid s.data.toList w) := by
 have hx0 := (Below.refl w.heap.size w).alloc Nr (.cells #[.string ⟨#[]⟩, .int .i64 0] 120)
 have hld := Hd (hS.below hx0)
 have hpk := Hd pick_sign
 have HB0 := Hd hx0
 have u0 : (w.alloc (.cells #[.string ⟨#[]⟩, .int .i64 0] 120)).cell? ⟨w.heap.size, 0, none⟩ = some (.string ⟨#[]⟩) := by simp [go_sem]
 have u1 : (w.alloc (.cells #[.string ⟨#[]⟩, .int .i64 0] 120)).cell? ⟨w.heap.size, 1, none⟩ = some (.int .i64 0) := by simp [go_sem]
 have uz : ∀ j, (w.alloc (.cells #[.string ⟨#[]⟩, .int .i64 0] 120)).frozen? ⟨w.heap.size, j, none⟩ = false := fun j => by simp
 have HU := Hd (Ai u0 (Ai u1 uz))
 have hz0 : (w.alloc (.cells #[.string ⟨#[]⟩, .int .i64 0] 120)).heap.size = w.heap.size + 1 := by simp
 clear hx0 hS u0 u1 uz
 go_enter Tryz.func69, Tryz.ntmps69
 go_upto_region 1 with fail
 generalize (w.alloc (.cells #[.string ⟨#[]⟩, .int .i64 0] 120)) = W at *
 go_wp2_with (refine wpList_load_mid rfl 145 (.global 18) rfl 18 0 rfl sgL (.array 21 120) hld.out (by kernel_rfl) rfl (by kernel_rfl) ?_; generalize Value.agg sgL.toArray = tv at *)
 clear hld
 go_loopw [7] (fun s7 wr => ∃ k : Nat, k ≤ 21 ∧ s7 = .int .i64 k ∧ Below W.heap.size W wr ∧ signL s.data.toList = (signsB.drop k).find? fun x => hasPrefix s.data.toList x.1.data.toList) (fun s7 _ => 21 - (RowKit.intOf s7).toNat)
 case atStart => exact ⟨0, Nat.zero_le _, rfl, Below.refl _ _, rfl⟩
 case round =>
  obtain ⟨k, hk, rfl, hb, hf⟩ := hrel
  have d0 := later' hb HU.out.1
  have d1 := later' hb HU.out.2.1
  have dz : ∀ j, wr.frozen? ⟨w.heap.size, j, none⟩ = false := fun j => (World.frozen?_of_block (w := W) (hb.block _ (by simp only; omega))).trans (HU.out.2.2 j)
  have HF := Hd (Ai hb hf)
  clear hb hf
  by_cases hlt : k < 21
  ·have hlt' : (k : Int) < 21 := by omega
   obtain ⟨f1, f2⟩ := find_drop s.data.toList k hlt HF.out.2
   have hp := hpk.out k hlt
   generalize signsB[k]'hlt = sg at *
   obtain ⟨t, kd⟩ := sg
   simp only at hp f1 f2
   have HP := Hd (fun W => Tryz.strings_HasPrefix s t W)
   have HFF := Hd (Ai f1 f2)
   have hx := (Below.refl wr.heap.size wr).alloc Nr (.cells #[.string t, .int .i64 kd] 120)
   have HX := Hd hx
   replace d0 := later' hx d0
   replace d1 := later' hx d1
   have lz := Bl HU.out.1
   have hsz := HF.out.1.size
   simp only at lz
   replace dz : ∀ j, (wr.alloc (.cells #[.string t, .int .i64 kd] 120)).frozen? ⟨w.heap.size, j, none⟩ = false := fun j => (World.frozen?_of_block (w := wr) (hx.block _ (by simp only; omega))).trans (dz j)
   have c0 : (wr.alloc (.cells #[.string t, .int .i64 kd] 120)).cell? ⟨wr.heap.size, 0, none⟩ = some (.string t) := by simp [go_sem]
   have c1 : (wr.alloc (.cells #[.string t, .int .i64 kd] 120)).cell? ⟨wr.heap.size, 1, none⟩ = some (.int .i64 kd) := by simp [go_sem]
   clear f1 f2 hx
   go_upto_region 4 with fail
   generalize (wr.alloc (.cells #[.string t, .int .i64 kd] 120)) = W4 at *
   go_wp2_with fail
   refine (HP.out W4).mono ?_
   rintro e W5 ⟨rfl, rfl⟩
   cases hpp : hasPrefix s.data.toList t.data.toList with
   | true =>
    have HT := Hd (HFF.out.1 hpp)
    clear hpp
    go_wp2_with fail
    obtain ⟨q0, q1⟩ := set2 d0 d1 (.string t) (.int .i64 kd)
    refine bodyPost_ret (v := .tuple #[.agg #[.string t, .int .i64 kd], .bool true]) (by simp [results, Tryz.results69, go_sem, q0, q1]) rfl ?_
    exact Or.inl ⟨_, HT.out, rfl, ((onB' (onB' HB0.out HF.out.1) HX.out).setCell Nr _).setCell Nr _⟩
   | false =>
    have HT := Hd (HFF.out.2 hpp)
    clear hpp
    go_wp2_with fail
    exact ⟨⟨k + 1, by omega, by go_num, onB' HF.out.1 HX.out, HT.out⟩, by simp [RowKit.intOf]; omega⟩
  ·obtain rfl : k = 21 := by omega
   have hn : signL s.data.toList = none := HF.out.2
   have HN := Hd hn
   clear hn
   go_wp2_with fail
   obtain ⟨q0, q1⟩ := set2 d0 d1 (.string ⟨#[]⟩) (.int .i64 0)
   refine bodyPost_ret (v := .tuple #[.agg #[.string ⟨#[]⟩, .int .i64 0], .bool false]) (by simp [results, Tryz.results69, go_sem, q0, q1]) rfl ?_
   exact Or.inr ⟨HN.out, rfl, ((onB' HB0.out HF.out.1).setCell Nr _).setCell Nr _⟩
def kindOf (l : List UInt8) : Int := if (kindF (runL l)).isSome = true then (kindF (runL l)).getD 0 else (kindF (l.take 1)).getD 0
def readR (l : List UInt8) : Tk × Int := if kindOf l = 0 then (.zero, 3) else if kindOf l = 3 then numT (runL l) else if 16 < (runL l).length then (.zero, 9) else (⟨kindOf l, runL l, false, 0⟩, 0)
def readL (l : List UInt8) : Tk × Int :=
 match signL l with
 | some x => (⟨x.2, x.1.data.toList, false, 0⟩, 0)
 | none => if hasPrefix l [35] = true then numT (markedL l) else readR l
structure Tok0 (W : World) (b : Nat) : Prop where
 d0 : W.cell? ⟨b, 0, none⟩ = some (.int .i64 0)
 d1 : W.cell? ⟨b, 1, none⟩ = some (.string ⟨#[]⟩)
 d2 : W.cell? ⟨b, 2, none⟩ = some (.bool false)
 d3 : W.cell? ⟨b, 3, none⟩ = some (.int .u64 0)
 d4 : W.cell? ⟨b, 4, none⟩ = some (.int .i64 0)
 z : ∀ j, W.frozen? ⟨b, j, none⟩ = false
theorem Tok0.later {W W' : World} {b : Nat} (h : Tok0 W b) (hb : Below W.heap.size W W') : Tok0 W' b := by
 have lt := Bl h.d0
 exact ⟨later' hb h.d0, later' hb h.d1, later' hb h.d2, later' hb h.d3, later' hb h.d4, fun j => (World.frozen?_of_block (w := W) (hb.block _ (by simpa using lt))).trans (h.z j)⟩
theorem tok0_new (w : World) : Tok0 (w.alloc (.cells #[.int .i64 0, .string ⟨#[]⟩, .bool false, .int .u64 0, .int .i64 0] 41)) w.heap.size := ⟨by simp [go_sem], by simp [go_sem], by simp [go_sem], by simp [go_sem], by simp [go_sem], fun j => by simp⟩
structure Rd (b kb : Nat) (w : World) : Prop where
 m : w.cell? ⟨b, 0, none⟩ = some (.map (some kb))
 k : KMap w kb 72 kindF
 s : SG w
 e : EE w
theorem Rd.later {b kb : Nat} {w w' : World} (h : Rd b kb w) (hb : Below w.heap.size w w') : Rd b kb w' := ⟨later' hb h.m, h.k.later hb, h.s.below hb, h.e.below hb⟩
theorem number_tk (s : ByteArray) (hs : s.size ≤ 140737488355328) (w : World) (hE : EE w) (k : Int) (t : List UInt8) (f : Bool) (x err : Int) (hn : numT s.data.toList = (⟨k, t, f, x⟩, err)) :
  Calls Tryz.prog 70 #[.string s] w fun e w' => ∃ b : ByteArray, e = .returned (.tuple #[.agg #[.int .i64 k, .string b, .bool f, .int .u64 x, .int .i64 0], .int .i64 err]) ∧ b.data.toList = t ∧ Below w.heap.size w w' := by
 refine (number_any s hs w hE).mono ?_
 rw [hn]
 rintro e w' ⟨b, he, hb, h⟩
 exact ⟨b, he, hb, h⟩
theorem read_any (s : ByteArray) (hs : s.size ≤ 140737488355328) (h1 : 1 ≤ s.size) (b kb : Nat) (w : World) (hR : Rd b kb w) :
  Calls Tryz.prog 68 #[.string s, .pointer (some ⟨b, 0, none⟩)] w (TkSaid (readL s.data.toList) w) := by
 have hx := (Below.refl w.heap.size w).alloc Nr (.cells #[.int .i64 0, .string ⟨#[]⟩, .bool false, .int .u64 0, .int .i64 0] 41)
 have HB := Hd hx
 have HT := Hd (tok0_new w)
 have HR := Hd (hR.later hx)
 clear hx hR
 have HP := Hd (fun W => Tryz.strings_HasPrefix s ⟨#[35]⟩ W)
 go_enter Tryz.func68, Tryz.ntmps68
 go_upto_region 1 with fail
 generalize (w.alloc (.cells #[.int .i64 0, .string ⟨#[]⟩, .bool false, .int .u64 0, .int .i64 0] 41)) = W at *
 go_wp2_with fail
 refine (sign_any s W HR.out.s).mono ?_
 rintro e w2 (⟨⟨t, kd⟩, hsg, rfl, hb⟩ | ⟨hsg, rfl, hb⟩)
 ·have hrd : readL s.data.toList = (⟨kd, t.data.toList, false, 0⟩, 0) := by unfold readL; rw [hsg]
  have HRD := Hd hrd
  have hx := (Below.refl w2.heap.size w2).alloc Nr (.cells #[.string t, .int .i64 kd] 120)
  have HT2 := (HT.out.later hb).later hx
  have HB2 := Hd (onB' (onB' HB.out hb) hx)
  have c0 : (w2.alloc (.cells #[.string t, .int .i64 kd] 120)).cell? ⟨w2.heap.size, 0, none⟩ = some (.string t) := by simp [go_sem]
  have c1 : (w2.alloc (.cells #[.string t, .int .i64 kd] 120)).cell? ⟨w2.heap.size, 1, none⟩ = some (.int .i64 kd) := by simp [go_sem]
  clear hb hx hsg hrd
  obtain ⟨d0, d1, d2, d3, d4, z⟩ := HT2
  go_upto_region 3 with fail
  generalize (w2.alloc (.cells #[.string t, .int .i64 kd] 120)) = W4 at *
  go_wp2_with fail
  obtain ⟨q0, q1, q2, q3, q4⟩ := set5 d0 d1 d2 d3 d4 (.int .i64 kd) (.string t) (.bool false) (.int .u64 0) (.int .i64 0)
  refine bodyPost_ret (v := .tuple #[vTk ⟨kd, t.data.toList, false, 0⟩ 0 t, .int .i64 0]) (by simp [results, Tryz.results68, go_sem, q0, q1, q2, q3, q4, vTk]) rfl ?_
  rw [HRD.out]
  exact ⟨t, rfl, rfl, below_set5 HB2.out Nr _ _ _ _ _⟩
 ·have hx := (Below.refl w2.heap.size w2).alloc Nr (.cells #[.string ⟨#[]⟩, .int .i64 0] 120)
  have HSG := Hd hsg
  have HT2 := Hd ((HT.out.later hb).later hx)
  have HB2 := Hd (onB' (onB' HB.out hb) hx)
  have HR2 := Hd ((HR.out.later hb).later hx)
  clear hb hx hsg HT HB HR
  go_upto_region 4 with fail
  generalize (w2.alloc (.cells #[.string ⟨#[]⟩, .int .i64 0] 120)) = W4 at *
  go_wp2_with fail
  refine (HP.out W4).mono ?_
  rintro e W5 ⟨rfl, rfl⟩
  cases hpp : hasPrefix s.data.toList [35] with
  | true =>
   have hrd : readL s.data.toList = numT (markedL s.data.toList) := by unfold readL; rw [HSG.out, if_pos hpp]
   have HRD := Hd hrd
   clear hpp hrd
   go_wp2_with fail
   refine (marked_any s hs h1 W5).mono ?_
   rintro e w6 ⟨r, rfl, hr, hb⟩
   have HR6 := HR2.out.later hb
   have HT6 := HT2.out.later hb
   have hb6 := onB' HB2.out hb
   have hml : r.size ≤ 140737488355328 := by
    rw [size_eq r, hr]
    unfold markedL
    rw [List.length_take, ← size_eq s]
    omega
   obtain ⟨⟨k, tt, f, x⟩, err, hn⟩ : ∃ tk err, numT (markedL s.data.toList) = (tk, err) := ⟨_, _, rfl⟩
   have HN := Hd (number_tk r hml w6 HR6.e k tt f x err (by rw [hr]; exact hn))
   have HRD2 := Hd (HRD.out.trans hn)
   have H6 := Hd (Ai HT6 hb6)
   clear hb hr hn HR6 HT6 hb6 HRD hml
   go_wp2_with fail
   refine HN.out.mono ?_
   rintro e w7 ⟨bb, rfl, hbb, hb⟩
   have hb7 := Hd (onB' H6.out.2 hb)
   obtain ⟨d0, d1, d2, d3, d4, z⟩ := H6.out.1.later hb
   have HBB := Hd hbb
   clear hb hbb
   go_wp2_with fail
   obtain ⟨q0, q1, q2, q3, q4⟩ := set5 d0 d1 d2 d3 d4 (.int .i64 k) (.string bb) (.bool f) (.int .u64 x) (.int .i64 0)
   refine bodyPost_ret (v := .tuple #[vTk ⟨k, tt, f, x⟩ 0 bb, .int .i64 err]) (by simp [results, Tryz.results68, go_sem, q0, q1, q2, q3, q4, vTk]) rfl ?_
   rw [HRD2.out]
   exact ⟨bb, rfl, HBB.out, below_set5 hb7.out Nr _ _ _ _ _⟩
  | false =>
   have hrd : readL s.data.toList = readR s.data.toList := by unfold readL; rw [HSG.out, if_neg (by rw [hpp]; decide)]
   have HRD := Hd hrd
   clear hpp hrd
   go_wp2_with fail
   refine (run_any s hs W5).mono ?_
   rintro e w6 ⟨r, rfl, hr, hb⟩
   have HR6 := HR2.out.later hb
   have hc6 := HR6.m
   have hrs : r.size ≤ 140737488355328 := by
    have := run_le s.data.toList
    rw [size_eq r, hr]
    rw [size_eq s] at hs
    omega
   have hlk := HR6.k.look_ok r (by unfold maxLen; omega)
   rw [hr] at hlk
   have HT6 := HT2.out.later hb
   have H6 := Hd (Ai HT6 (Ai (onB' HB2.out hb) HR6))
   have HRL := Hd hr
   clear hb hr HR6 HT6
   have hko : kindOf s.data.toList = if (kindF (runL s.data.toList)).isSome = true then (kindF (runL s.data.toList)).getD 0 else (kindF (s.data.toList.take 1)).getD 0 := rfl
   cases hkq : kindF (runL s.data.toList) with
   | some kq =>
    rw [hkq] at hlk hko
    simp only [Option.getD_some, Option.isSome_some, if_true] at hlk hko
    have HKO := Hd hko
    clear hkq hko
    go_upto_region 10 with fail
    have H9 := Hd H6.out
    clear H6 hlk hc6
    generalize w6 = W9 at *
    have hrr : readL s.data.toList = if kq = 0 then (.zero, 3) else if kq = 3 then numT r.data.toList else if 16 < r.data.toList.length then (.zero, 9) else (⟨kq, r.data.toList, false, 0⟩, 0) := by
     rw [HRD.out]
     unfold readR
     rw [HKO.out, HRL.out]
    have HRR := Hd hrr
    clear hrr HRD HKO HRL HR2 HT2 HB2 HSG HP
    by_cases k0 : kq = 0
    ·subst k0
     obtain ⟨d0, d1, d2, d3, d4, z⟩ := H9.out.1
     go_wp2_with fail
     obtain ⟨q0, q1, q2, q3, q4⟩ := set5 d0 d1 d2 d3 d4 (.int .i64 0) (.string ⟨#[]⟩) (.bool false) (.int .u64 0) (.int .i64 0)
     refine bodyPost_ret (v := .tuple #[vTk .zero 0 ⟨#[]⟩, .int .i64 3]) (by simp [results, Tryz.results68, go_sem, q0, q1, q2, q3, q4, vTk, Tk.zero]) rfl ?_
     rw [HRR.out, if_pos (by trivial)]
     exact ⟨⟨#[]⟩, rfl, rfl, below_set5 H9.out.2.1 Nr _ _ _ _ _⟩
    ·have k0' : (kq == 0) = false := by simpa using k0
     by_cases k3 : kq = 3
     ·subst k3
      obtain ⟨⟨k, tt, f, x⟩, err, hn⟩ : ∃ tk err, numT r.data.toList = (tk, err) := ⟨_, _, rfl⟩
      have HN := Hd (number_tk r hrs W9 H9.out.2.2.e k tt f x err hn)
      have HRD2 := Hd (show readL s.data.toList = (⟨k, tt, f, x⟩, err) by rw [HRR.out, if_neg (by decide), if_pos (by trivial)]; exact hn)
      clear hn
      go_wp2_with fail
      refine HN.out.mono ?_
      rintro e w7 ⟨bb, rfl, hbb, hb⟩
      have hb7 := Hd (onB' H9.out.2.1 hb)
      obtain ⟨d0, d1, d2, d3, d4, z⟩ := H9.out.1.later hb
      have HBB := Hd hbb
      clear hb hbb
      go_wp2_with fail
      obtain ⟨q0, q1, q2, q3, q4⟩ := set5 d0 d1 d2 d3 d4 (.int .i64 k) (.string bb) (.bool f) (.int .u64 x) (.int .i64 0)
      refine bodyPost_ret (v := .tuple #[vTk ⟨k, tt, f, x⟩ 0 bb, .int .i64 err]) (by simp [results, Tryz.results68, go_sem, q0, q1, q2, q3, q4, vTk]) rfl ?_
      rw [HRD2.out]
      exact ⟨bb, rfl, HBB.out, below_set5 hb7.out Nr _ _ _ _ _⟩
     ·have k3' : (kq == 3) = false := by simpa using k3
      have hrz := size_eq r
      by_cases k16 : 16 < r.size
      ·have k16' : decide ((16 : Int) < (r.size : Int)) = true := decide_eq_true (by omega)
       have HRD2 := Hd (show readL s.data.toList = (.zero, 9) by rw [HRR.out, if_neg k0, if_neg k3, if_pos (by omega)])
       clear hrz HRR
       obtain ⟨d0, d1, d2, d3, d4, z⟩ := H9.out.1
       go_wp2_with fail
       obtain ⟨q0, q1, q2, q3, q4⟩ := set5 d0 d1 d2 d3 d4 (.int .i64 0) (.string ⟨#[]⟩) (.bool false) (.int .u64 0) (.int .i64 0)
       refine bodyPost_ret (v := .tuple #[vTk .zero 0 ⟨#[]⟩, .int .i64 9]) (by simp [results, Tryz.results68, go_sem, q0, q1, q2, q3, q4, vTk, Tk.zero]) rfl ?_
       rw [HRD2.out]
       exact ⟨⟨#[]⟩, rfl, rfl, below_set5 H9.out.2.1 Nr _ _ _ _ _⟩
      ·have k16' : decide ((16 : Int) < (r.size : Int)) = false := decide_eq_false (by omega)
       have HRD2 := Hd (show readL s.data.toList = (⟨kq, r.data.toList, false, 0⟩, 0) by rw [HRR.out, if_neg k0, if_neg k3, if_neg (by omega)])
       clear hrz HRR
       have HC := Hd (clone_any r hrs W9)
       go_wp2_with fail
       refine HC.out.mono ?_
       rintro e w7 ⟨rfl, hb⟩
       have hb7 := Hd (onB' H9.out.2.1 hb)
       obtain ⟨d0, d1, d2, d3, d4, z⟩ := H9.out.1.later hb
       clear hb
       go_wp2_with fail
       obtain ⟨q0, q1, q2, q3, q4⟩ := set5 d0 d1 d2 d3 d4 (.int .i64 kq) (.string r) (.bool false) (.int .u64 0) (.int .i64 0)
       refine bodyPost_ret (v := .tuple #[vTk ⟨kq, r.data.toList, false, 0⟩ 0 r, .int .i64 0]) (by simp [results, Tryz.results68, go_sem, q0, q1, q2, q3, q4, vTk]) rfl ?_
       rw [HRD2.out]
       exact ⟨r, rfl, rfl, below_set5 hb7.out Nr _ _ _ _ _⟩
   | none =>
    rw [hkq] at hlk hko
    simp only [Option.getD_none, Option.isSome_none] at hlk hko
    rw [if_neg (by decide)] at hko
    have hl1 := head_list s 1
    have hsz1 : (s.extract 0 1).size ≤ maxLen := by
     rw [size_eq, hl1, List.length_take]
     exact Nt (Nat.min_le_left _ _) (by unfold maxLen; omega)
    have hdr : Below w6.heap.size w6 w6.drew := ⟨rfl, rfl, rfl, Nat.le_refl _, fun _ _ => rfl⟩
    have hlk2 := ((H6.out.2.2.later hdr).k).look (s.extract 0 1) hsz1
    rw [hl1, ← hko] at hlk2
    generalize hkk : kindOf s.data.toList = kq at *
    have HKO := Hd hkk
    have c1 : (1 : Int) ≤ (s.size : Int) := by omega
    have hc6d : w6.drew.cell? ⟨b, 0, none⟩ = some (.map (some kb)) := hc6
    clear hkq hko hkk hl1
    go_upto_region 9 with fail
    go_region
    have H9 := Hd (show Tok0 w6.drew w.heap.size ∧ Below w.heap.size w w6.drew ∧ Rd b kb w6.drew from ⟨H6.out.1.later hdr, onB' H6.out.2.1 hdr, H6.out.2.2.later hdr⟩)
    clear H6 hlk hc6 hc6d hlk2 hdr hsz1 c1
    generalize w6.drew = W9 at *
    have hrr : readL s.data.toList = if kq = 0 then (.zero, 3) else if kq = 3 then numT r.data.toList else if 16 < r.data.toList.length then (.zero, 9) else (⟨kq, r.data.toList, false, 0⟩, 0) := by
     rw [HRD.out]
     unfold readR
     rw [HKO.out, HRL.out]
    have HRR := Hd hrr
    clear hrr HRD HKO HRL HR2 HT2 HB2 HSG HP
    by_cases k0 : kq = 0
    ·subst k0
     obtain ⟨d0, d1, d2, d3, d4, z⟩ := H9.out.1
     go_wp2_with fail
     obtain ⟨q0, q1, q2, q3, q4⟩ := set5 d0 d1 d2 d3 d4 (.int .i64 0) (.string ⟨#[]⟩) (.bool false) (.int .u64 0) (.int .i64 0)
     refine bodyPost_ret (v := .tuple #[vTk .zero 0 ⟨#[]⟩, .int .i64 3]) (by simp [results, Tryz.results68, go_sem, q0, q1, q2, q3, q4, vTk, Tk.zero]) rfl ?_
     rw [HRR.out, if_pos (by trivial)]
     exact ⟨⟨#[]⟩, rfl, rfl, below_set5 H9.out.2.1 Nr _ _ _ _ _⟩
    ·have k0' : (kq == 0) = false := by simpa using k0
     by_cases k3 : kq = 3
     ·subst k3
      obtain ⟨⟨k, tt, f, x⟩, err, hn⟩ : ∃ tk err, numT r.data.toList = (tk, err) := ⟨_, _, rfl⟩
      have HN := Hd (number_tk r hrs W9 H9.out.2.2.e k tt f x err hn)
      have HRD2 := Hd (show readL s.data.toList = (⟨k, tt, f, x⟩, err) by rw [HRR.out, if_neg (by decide), if_pos (by trivial)]; exact hn)
      clear hn
      go_wp2_with fail
      refine HN.out.mono ?_
      rintro e w7 ⟨bb, rfl, hbb, hb⟩
      have hb7 := Hd (onB' H9.out.2.1 hb)
      obtain ⟨d0, d1, d2, d3, d4, z⟩ := H9.out.1.later hb
      have HBB := Hd hbb
      clear hb hbb
      go_wp2_with fail
      obtain ⟨q0, q1, q2, q3, q4⟩ := set5 d0 d1 d2 d3 d4 (.int .i64 k) (.string bb) (.bool f) (.int .u64 x) (.int .i64 0)
      refine bodyPost_ret (v := .tuple #[vTk ⟨k, tt, f, x⟩ 0 bb, .int .i64 err]) (by simp [results, Tryz.results68, go_sem, q0, q1, q2, q3, q4, vTk]) rfl ?_
      rw [HRD2.out]
      exact ⟨bb, rfl, HBB.out, below_set5 hb7.out Nr _ _ _ _ _⟩
     ·have k3' : (kq == 3) = false := by simpa using k3
      have hrz := size_eq r
      by_cases k16 : 16 < r.size
      ·have k16' : decide ((16 : Int) < (r.size : Int)) = true := decide_eq_true (by omega)
       have HRD2 := Hd (show readL s.data.toList = (.zero, 9) by rw [HRR.out, if_neg k0, if_neg k3, if_pos (by omega)])
       clear hrz HRR
       obtain ⟨d0, d1, d2, d3, d4, z⟩ := H9.out.1
       go_wp2_with fail
       obtain ⟨q0, q1, q2, q3, q4⟩ := set5 d0 d1 d2 d3 d4 (.int .i64 0) (.string ⟨#[]⟩) (.bool false) (.int .u64 0) (.int .i64 0)
       refine bodyPost_ret (v := .tuple #[vTk .zero 0 ⟨#[]⟩, .int .i64 9]) (by simp [results, Tryz.results68, go_sem, q0, q1, q2, q3, q4, vTk, Tk.zero]) rfl ?_
       rw [HRD2.out]
       exact ⟨⟨#[]⟩, rfl, rfl, below_set5 H9.out.2.1 Nr _ _ _ _ _⟩
      ·have k16' : decide ((16 : Int) < (r.size : Int)) = false := decide_eq_false (by omega)
       have HRD2 := Hd (show readL s.data.toList = (⟨kq, r.data.toList, false, 0⟩, 0) by rw [HRR.out, if_neg k0, if_neg k3, if_neg (by omega)])
       clear hrz HRR
       have HC := Hd (clone_any r hrs W9)
       go_wp2_with fail
       refine HC.out.mono ?_
       rintro e w7 ⟨rfl, hb⟩
       have hb7 := Hd (onB' H9.out.2.1 hb)
       obtain ⟨d0, d1, d2, d3, d4, z⟩ := H9.out.1.later hb
       clear hb
       go_wp2_with fail
       obtain ⟨q0, q1, q2, q3, q4⟩ := set5 d0 d1 d2 d3 d4 (.int .i64 kq) (.string r) (.bool false) (.int .u64 0) (.int .i64 0)
       refine bodyPost_ret (v := .tuple #[vTk ⟨kq, r.data.toList, false, 0⟩ 0 r, .int .i64 0]) (by simp [results, Tryz.results68, go_sem, q0, q1, q2, q3, q4, vTk]) rfl ?_
       rw [HRD2.out]
       exact ⟨r, rfl, rfl, below_set5 hb7.out Nr _ _ _ _ _⟩
end Go.Proofs.YtbnmmbjajheedaaGreatDoor
