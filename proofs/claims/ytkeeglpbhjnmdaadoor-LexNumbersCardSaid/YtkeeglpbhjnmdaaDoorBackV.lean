/- The parse: a float's text, an int's text, any text. -/
import Derived.Test.YtkeeglpbhjnmdaaDoorBackT
namespace Go.Proofs.YtkeeglpbhjnmdaaDoor
open Go.RowKit
open Go.Lib (NumEnd parseIntB itoa)

theorem parseFloat_good (d : ByteArray) (hl : d.size = 16) (hall : ∀ c ∈ d.data.toList, isHex c = true) (w : World) :
    Calls Tryd.prog 46 #[.string d] w fun e w' => e = .returned (.tuple #[.agg #[.bool true, .int .u64 (hexN 0 d.data.toList : Nat)], .int .i64 0]) ∧ Below w.heap.size w w' := by
  have hp := fun W => puint_good d hl hall W
  have hm := fun W => madeOf_any d hexB W (by decide) hex_small
  rw [(madeOf_hex _).2 hall] at hm
  have hl' : (d.size : Int) = 16 := by omega
  generalize hexN 0 d.data.toList = n at hp ⊢
  clear hl hall
  go_enter Tryd.func46, Tryd.ntmps46
  go_wp2_with fail
  have hal : Below w.heap.size w (w.alloc (Obj.cells #[Value.bool false, Value.int IntKind.u64 0] 33)) := (Below.refl _ _).alloc (Nat.le_refl _) _
  have c0 : (w.alloc (Obj.cells #[Value.bool false, Value.int IntKind.u64 0] 33)).cell? ⟨w.heap.size, 0, none⟩ = some (.bool false) := by simp
  have c1 : (w.alloc (Obj.cells #[Value.bool false, Value.int IntKind.u64 0] 33)).cell? ⟨w.heap.size, 1, none⟩ = some (.int .u64 0) := by simp
  have z0 : (w.alloc (Obj.cells #[Value.bool false, Value.int IntKind.u64 0] 33)).frozen? ⟨w.heap.size, 0, none⟩ = false := by simp
  have z1 : (w.alloc (Obj.cells #[Value.bool false, Value.int IntKind.u64 0] 33)).frozen? ⟨w.heap.size, 1, none⟩ = false := by simp
  have ls : w.heap.size < (w.alloc (Obj.cells #[Value.bool false, Value.int IntKind.u64 0] 33)).heap.size := by simp
  generalize (w.alloc (Obj.cells #[Value.bool false, Value.int IntKind.u64 0] 33)) = w0 at *
  refine (hp _).mono ?_
  rintro e w1 ⟨rfl, hb⟩
  replace c0 := cell_later hb c0
  replace c1 := cell_later hb c1
  replace z0 := (hb.frozen (p := ⟨w.heap.size, 0, none⟩) ls).trans z0
  replace z1 := (hb.frozen (p := ⟨w.heap.size, 1, none⟩) ls).trans z1
  replace hal := hal.trans (hb.mono (Nat.le_of_lt ls))
  replace ls := Nat.lt_of_lt_of_le ls hb.size
  clear hb
  go_wp2_with fail
  refine (hm _).mono ?_
  rintro e w2 ⟨rfl, hb⟩
  replace c0 := cell_later hb c0
  replace c1 := cell_later hb c1
  replace z0 := (hb.frozen (p := ⟨w.heap.size, 0, none⟩) ls).trans z0
  replace z1 := (hb.frozen (p := ⟨w.heap.size, 1, none⟩) ls).trans z1
  replace hal := hal.trans (hb.mono (Nat.le_of_lt ls))
  replace ls := Nat.lt_of_lt_of_le ls hb.size
  clear hb
  go_wp2_with fail
  refine bodyPost_ret (v := .tuple #[.agg #[.bool true, .int .u64 (n : Nat)], .int .i64 0]) (by simp [results, Tryd.results46, go_sem, c0, c1]) rfl ⟨rfl, (hal.setCell (Nat.le_refl _) _).setCell (Nat.le_refl _) _⟩

theorem parseFloat_bad (d : ByteArray) (hmax : d.size ≤ 100000) (hbad : ¬ (d.size = 16 ∧ ∀ c ∈ d.data.toList, isHex c = true)) (w : World) (hE : EE w) :
    Calls Tryd.prog 46 #[.string d] w fun e w' => e = .returned (.tuple #[.agg #[.bool false, .int .u64 0], .int .i64 3]) ∧ Below w.heap.size w w' := by
  have hm := fun W => madeOf_any d hexB W (by decide) hex_small
  go_enter Tryd.func46, Tryd.ntmps46
  go_wp2_with fail
  replace hE := hE.below ((Below.refl _ _).alloc (Nat.le_refl _) (Obj.cells #[Value.bool false, Value.int IntKind.u64 0] 33))
  have hal : Below w.heap.size w (w.alloc (Obj.cells #[Value.bool false, Value.int IntKind.u64 0] 33)) := (Below.refl _ _).alloc (Nat.le_refl _) _
  have c0 : (w.alloc (Obj.cells #[Value.bool false, Value.int IntKind.u64 0] 33)).cell? ⟨w.heap.size, 0, none⟩ = some (.bool false) := by simp
  have c1 : (w.alloc (Obj.cells #[Value.bool false, Value.int IntKind.u64 0] 33)).cell? ⟨w.heap.size, 1, none⟩ = some (.int .u64 0) := by simp
  have z0 : (w.alloc (Obj.cells #[Value.bool false, Value.int IntKind.u64 0] 33)).frozen? ⟨w.heap.size, 0, none⟩ = false := by simp
  have z1 : (w.alloc (Obj.cells #[Value.bool false, Value.int IntKind.u64 0] 33)).frozen? ⟨w.heap.size, 1, none⟩ = false := by simp
  have ls : w.heap.size < (w.alloc (Obj.cells #[Value.bool false, Value.int IntKind.u64 0] 33)).heap.size := by simp
  generalize (w.alloc (Obj.cells #[Value.bool false, Value.int IntKind.u64 0] 33)) = w0 at *
  refine (puint_some d hmax _ hE).mono ?_
  rintro e w1 ⟨⟨x, v, rfl, hv⟩, hb⟩
  replace c0 := cell_later hb c0
  replace c1 := cell_later hb c1
  replace z0 := (hb.frozen (p := ⟨w.heap.size, 0, none⟩) ls).trans z0
  replace z1 := (hb.frozen (p := ⟨w.heap.size, 1, none⟩) ls).trans z1
  replace hal := hal.trans (hb.mono (Nat.le_of_lt ls))
  replace ls := Nat.lt_of_lt_of_le ls hb.size
  clear hb
  clear hE hmax
  rcases hv with rfl | ⟨M, rfl⟩
  · by_cases hl : d.size = 16
    · have hl' : (d.size : Int) = 16 := by omega
      have hf : madeOf d.data.toList hexB.data.toList = false := Bool.eq_false_iff.2 fun e => hbad ⟨hl, (madeOf_hex _).1 e⟩
      rw [hf] at hm
      clear hl hbad hf
      go_wp2_with fail
      refine (hm _).mono ?_
      rintro e w2 ⟨rfl, hb⟩
      replace c0 := cell_later hb c0
      replace c1 := cell_later hb c1
      replace z0 := (hb.frozen (p := ⟨w.heap.size, 0, none⟩) ls).trans z0
      replace z1 := (hb.frozen (p := ⟨w.heap.size, 1, none⟩) ls).trans z1
      replace hal := hal.trans (hb.mono (Nat.le_of_lt ls))
      replace ls := Nat.lt_of_lt_of_le ls hb.size
      clear hb
      go_wp2_with fail
      refine bodyPost_ret (v := .tuple #[.agg #[.bool false, .int .u64 0], .int .i64 3]) (by simp [results, Tryd.results46, go_sem, c0, c1]) rfl ⟨rfl, (hal.setCell (Nat.le_refl _) _).setCell (Nat.le_refl _) _⟩
    · have hl' : ¬ (d.size : Int) = 16 := by omega
      clear hl hbad hm
      go_wp2_with fail
      refine bodyPost_ret (v := .tuple #[.agg #[.bool false, .int .u64 0], .int .i64 3]) (by simp [results, Tryd.results46, go_sem, c0, c1]) rfl ⟨rfl, (hal.setCell (Nat.le_refl _) _).setCell (Nat.le_refl _) _⟩
  · clear hbad hm
    go_wp2_with fail
    refine bodyPost_ret (v := .tuple #[.agg #[.bool false, .int .u64 0], .int .i64 3]) (by simp [results, Tryd.results46, go_sem, c0, c1]) rfl ⟨rfl, (hal.setCell (Nat.le_refl _) _).setCell (Nat.le_refl _) _⟩

theorem parseInt_noform (s : ByteArray) (hf : intF s.data.toList = false) (w : World) :
    Calls Tryd.prog 47 #[.string s] w fun e w' => e = .returned (.tuple #[.agg #[.bool false, .int .u64 0], .int .i64 3]) ∧ Below w.heap.size w w' := by
  have hi := fun W => intForm_any s W
  rw [hf] at hi
  clear hf
  go_enter Tryd.func47, Tryd.ntmps47
  go_wp2_with fail
  have hal : Below w.heap.size w (w.alloc (Obj.cells #[Value.bool false, Value.int IntKind.u64 0] 33)) := (Below.refl _ _).alloc (Nat.le_refl _) _
  have c0 : (w.alloc (Obj.cells #[Value.bool false, Value.int IntKind.u64 0] 33)).cell? ⟨w.heap.size, 0, none⟩ = some (.bool false) := by simp
  have c1 : (w.alloc (Obj.cells #[Value.bool false, Value.int IntKind.u64 0] 33)).cell? ⟨w.heap.size, 1, none⟩ = some (.int .u64 0) := by simp
  have z0 : (w.alloc (Obj.cells #[Value.bool false, Value.int IntKind.u64 0] 33)).frozen? ⟨w.heap.size, 0, none⟩ = false := by simp
  have z1 : (w.alloc (Obj.cells #[Value.bool false, Value.int IntKind.u64 0] 33)).frozen? ⟨w.heap.size, 1, none⟩ = false := by simp
  have ls : w.heap.size < (w.alloc (Obj.cells #[Value.bool false, Value.int IntKind.u64 0] 33)).heap.size := by simp
  generalize (w.alloc (Obj.cells #[Value.bool false, Value.int IntKind.u64 0] 33)) = w0 at *
  refine (hi _).mono ?_
  rintro e w1 ⟨rfl, hb⟩
  replace c0 := cell_later hb c0
  replace c1 := cell_later hb c1
  replace z0 := (hb.frozen (p := ⟨w.heap.size, 0, none⟩) ls).trans z0
  replace z1 := (hb.frozen (p := ⟨w.heap.size, 1, none⟩) ls).trans z1
  replace hal := hal.trans (hb.mono (Nat.le_of_lt ls))
  replace ls := Nat.lt_of_lt_of_le ls hb.size
  clear hb
  go_wp2_with fail
  refine bodyPost_ret (v := .tuple #[.agg #[.bool false, .int .u64 0], .int .i64 3]) (by simp [results, Tryd.results47, go_sem, c0, c1]) rfl ⟨rfl, (hal.setCell (Nat.le_refl _) _).setCell (Nat.le_refl _) _⟩

theorem parseInt_ok (s : ByteArray) (hmax : s.size ≤ 100000) (v : Int) (hf : intF s.data.toList = true) (hv : parseIntB 64 s.data.toList = .ok v) (w : World) :
    Calls Tryd.prog 47 #[.string s] w fun e w' => e = .returned (.tuple #[.agg #[.bool false, .int .u64 (U v)], .int .i64 0]) ∧ Below w.heap.size w w' := by
  have hi := fun W => intForm_any s W
  rw [hf] at hi
  have hp : ∀ W, Calls Tryd.prog 59 #[.string s, .int .i64 10, .int .i64 64] W fun e w' => e = .returned (.tuple #[.int .i64 v, .nilIface]) ∧ Below W.heap.size W w' := fun W =>
    (Tryd.strconv_ParseInt_10_at64_ok s (by omega) v hv W).mono fun e w' ⟨h1, h2⟩ => ⟨h1, by
      rcases h2 with rfl | ⟨t, rfl⟩
      · exact Below.refl _ _
      · exact bytes_below W t⟩
  clear hf hv
  go_enter Tryd.func47, Tryd.ntmps47
  go_wp2_with fail
  have hal : Below w.heap.size w (w.alloc (Obj.cells #[Value.bool false, Value.int IntKind.u64 0] 33)) := (Below.refl _ _).alloc (Nat.le_refl _) _
  have c0 : (w.alloc (Obj.cells #[Value.bool false, Value.int IntKind.u64 0] 33)).cell? ⟨w.heap.size, 0, none⟩ = some (.bool false) := by simp
  have c1 : (w.alloc (Obj.cells #[Value.bool false, Value.int IntKind.u64 0] 33)).cell? ⟨w.heap.size, 1, none⟩ = some (.int .u64 0) := by simp
  have z0 : (w.alloc (Obj.cells #[Value.bool false, Value.int IntKind.u64 0] 33)).frozen? ⟨w.heap.size, 0, none⟩ = false := by simp
  have z1 : (w.alloc (Obj.cells #[Value.bool false, Value.int IntKind.u64 0] 33)).frozen? ⟨w.heap.size, 1, none⟩ = false := by simp
  have ls : w.heap.size < (w.alloc (Obj.cells #[Value.bool false, Value.int IntKind.u64 0] 33)).heap.size := by simp
  generalize (w.alloc (Obj.cells #[Value.bool false, Value.int IntKind.u64 0] 33)) = w0 at *
  refine (hi _).mono ?_
  rintro e w1 ⟨rfl, hb⟩
  replace c0 := cell_later hb c0
  replace c1 := cell_later hb c1
  replace z0 := (hb.frozen (p := ⟨w.heap.size, 0, none⟩) ls).trans z0
  replace z1 := (hb.frozen (p := ⟨w.heap.size, 1, none⟩) ls).trans z1
  replace hal := hal.trans (hb.mono (Nat.le_of_lt ls))
  replace ls := Nat.lt_of_lt_of_le ls hb.size
  clear hb
  go_wp2_with fail
  refine (hp _).mono ?_
  rintro e w2 ⟨rfl, hb⟩
  replace c0 := cell_later hb c0
  replace c1 := cell_later hb c1
  replace z0 := (hb.frozen (p := ⟨w.heap.size, 0, none⟩) ls).trans z0
  replace z1 := (hb.frozen (p := ⟨w.heap.size, 1, none⟩) ls).trans z1
  replace hal := hal.trans (hb.mono (Nat.le_of_lt ls))
  replace ls := Nat.lt_of_lt_of_le ls hb.size
  clear hb
  go_wp2_with fail
  refine (int_U v _).mono ?_
  rintro e w3 ⟨rfl, hb⟩
  replace c0 := cell_later hb c0
  replace c1 := cell_later hb c1
  replace z0 := (hb.frozen (p := ⟨w.heap.size, 0, none⟩) ls).trans z0
  replace z1 := (hb.frozen (p := ⟨w.heap.size, 1, none⟩) ls).trans z1
  replace hal := hal.trans (hb.mono (Nat.le_of_lt ls))
  replace ls := Nat.lt_of_lt_of_le ls hb.size
  clear hb
  go_wp2_with fail
  refine bodyPost_ret (v := .tuple #[.agg #[.bool false, .int .u64 (U v)], .int .i64 0]) (by simp [results, Tryd.results47, go_sem, c0, c1]) rfl ⟨rfl, (hal.setCell (Nat.le_refl _) _).setCell (Nat.le_refl _) _⟩

theorem parseInt_range (s : ByteArray) (hmax : s.size ≤ 100000) (hf : intF s.data.toList = true) (hv : parseIntB 64 s.data.toList = .range) (w : World) (hE : EE w) :
    Calls Tryd.prog 47 #[.string s] w fun e w' => e = .returned (.tuple #[.agg #[.bool false, .int .u64 0], .int .i64 1]) ∧ Below w.heap.size w w' := by
  have hi := fun W => intForm_any s W
  rw [hf] at hi
  have hp : ∀ W, EE W → Calls Tryd.prog 59 #[.string s, .int .i64 10, .int .i64 64] W fun e w' => (∃ x M, e = .returned (.tuple #[.int .i64 x, .iface 100 (.pointer (some ⟨M, 0, none⟩))])) ∧ Below W.heap.size W w' := fun W hE => by
    obtain ⟨_, ev, k1, k2⟩ := hE
    exact (Tryd.strconv_ParseInt_10_at64_range s (by omega) hv ev W k1 k2).mono fun e w' ⟨M, h1, _, _, h2⟩ => ⟨⟨_, M, h1⟩, h2⟩
  clear hf hv
  go_enter Tryd.func47, Tryd.ntmps47
  go_wp2_with fail
  replace hE := hE.below ((Below.refl _ _).alloc (Nat.le_refl _) (Obj.cells #[Value.bool false, Value.int IntKind.u64 0] 33))
  have hal : Below w.heap.size w (w.alloc (Obj.cells #[Value.bool false, Value.int IntKind.u64 0] 33)) := (Below.refl _ _).alloc (Nat.le_refl _) _
  have c0 : (w.alloc (Obj.cells #[Value.bool false, Value.int IntKind.u64 0] 33)).cell? ⟨w.heap.size, 0, none⟩ = some (.bool false) := by simp
  have c1 : (w.alloc (Obj.cells #[Value.bool false, Value.int IntKind.u64 0] 33)).cell? ⟨w.heap.size, 1, none⟩ = some (.int .u64 0) := by simp
  have z0 : (w.alloc (Obj.cells #[Value.bool false, Value.int IntKind.u64 0] 33)).frozen? ⟨w.heap.size, 0, none⟩ = false := by simp
  have z1 : (w.alloc (Obj.cells #[Value.bool false, Value.int IntKind.u64 0] 33)).frozen? ⟨w.heap.size, 1, none⟩ = false := by simp
  have ls : w.heap.size < (w.alloc (Obj.cells #[Value.bool false, Value.int IntKind.u64 0] 33)).heap.size := by simp
  generalize (w.alloc (Obj.cells #[Value.bool false, Value.int IntKind.u64 0] 33)) = w0 at *
  refine (hi _).mono ?_
  rintro e w1 ⟨rfl, hb⟩
  replace hE := hE.below hb
  replace c0 := cell_later hb c0
  replace c1 := cell_later hb c1
  replace z0 := (hb.frozen (p := ⟨w.heap.size, 0, none⟩) ls).trans z0
  replace z1 := (hb.frozen (p := ⟨w.heap.size, 1, none⟩) ls).trans z1
  replace hal := hal.trans (hb.mono (Nat.le_of_lt ls))
  replace ls := Nat.lt_of_lt_of_le ls hb.size
  clear hb
  go_wp2_with fail
  refine (hp _ hE).mono ?_
  rintro e w2 ⟨⟨x, M, rfl⟩, hb⟩
  replace c0 := cell_later hb c0
  replace c1 := cell_later hb c1
  replace z0 := (hb.frozen (p := ⟨w.heap.size, 0, none⟩) ls).trans z0
  replace z1 := (hb.frozen (p := ⟨w.heap.size, 1, none⟩) ls).trans z1
  replace hal := hal.trans (hb.mono (Nat.le_of_lt ls))
  replace ls := Nat.lt_of_lt_of_le ls hb.size
  clear hb
  clear hE
  go_wp2_with fail
  refine bodyPost_ret (v := .tuple #[.agg #[.bool false, .int .u64 0], .int .i64 1]) (by simp [results, Tryd.results47, go_sem, c0, c1]) rfl ⟨rfl, (hal.setCell (Nat.le_refl _) _).setCell (Nat.le_refl _) _⟩

/-- What a text tells: of which kind, the bits, the error. -/
def parseL (l : List UInt8) : Bool × Int × Int :=
  if Lib.hasPrefix l [48, 102] = true then
    (if (l.drop 2).length = 16 ∧ ∀ c ∈ l.drop 2, isHex c = true then (true, ((hexN 0 (l.drop 2) : Nat) : Int), 0) else (false, 0, 3))
  else if intF l = true then (match parseIntB 64 l with | .ok v => (false, U v, 0) | _ => (false, 0, 1)) else (false, 0, 3)

theorem parseFloat_any (d : ByteArray) (hmax : d.size ≤ 100000) (w : World) (hE : EE w) (b : Bool) (x e0 : Int) (hr : (if d.data.toList.length = 16 ∧ ∀ c ∈ d.data.toList, isHex c = true then (true, ((hexN 0 d.data.toList : Nat) : Int), (0 : Int)) else (false, 0, 3)) = (b, x, e0)) :
    Calls Tryd.prog 46 #[.string d] w fun e w' => e = .returned (.tuple #[.agg #[.bool b, .int .u64 x], .int .i64 e0]) ∧ Below w.heap.size w w' := by
  have hz := Lib.size_eq d
  split at hr
  · rename_i h
    simp only [Prod.mk.injEq] at hr
    obtain ⟨rfl, rfl, rfl⟩ := hr
    exact parseFloat_good d (by omega) h.2 w
  · rename_i h
    simp only [Prod.mk.injEq] at hr
    obtain ⟨rfl, rfl, rfl⟩ := hr
    exact parseFloat_bad d hmax (fun h' => h ⟨by omega, h'.2⟩) w hE

theorem parseInt_any (s : ByteArray) (hmax : s.size ≤ 100000) (w : World) (hE : EE w) (b : Bool) (x e0 : Int) (hr : (if intF s.data.toList = true then (match parseIntB 64 s.data.toList with | .ok v => (false, U v, (0 : Int)) | _ => (false, 0, 1)) else (false, 0, 3)) = (b, x, e0)) :
    Calls Tryd.prog 47 #[.string s] w fun e w' => e = .returned (.tuple #[.agg #[.bool b, .int .u64 x], .int .i64 e0]) ∧ Below w.heap.size w w' := by
  split at hr
  · rename_i hf
    cases hv : parseIntB 64 s.data.toList with
    | ok v =>
      rw [hv] at hr
      simp only [Prod.mk.injEq] at hr
      obtain ⟨rfl, rfl, rfl⟩ := hr
      exact parseInt_ok s hmax v hf hv w
    | range =>
      rw [hv] at hr
      simp only [Prod.mk.injEq] at hr
      obtain ⟨rfl, rfl, rfl⟩ := hr
      exact parseInt_range s hmax hf hv w hE
    | _ =>
      have h := int_plain _ hf
      rw [hv] at h
      exact h.elim
  · rename_i hf
    simp only [Prod.mk.injEq] at hr
    obtain ⟨rfl, rfl, rfl⟩ := hr
    exact parseInt_noform s (by simpa using hf) w

theorem parse_any (s : ByteArray) (hmax : s.size ≤ 100000) (w : World) (hE : EE w) (b : Bool) (x e0 : Int) (hr : parseL s.data.toList = (b, x, e0)) :
    Calls Tryd.prog 39 #[.string s] w fun e w' => e = .returned (.tuple #[.agg #[.bool b, .int .u64 x], .int .i64 e0]) ∧ Below w.heap.size w w' := by
  have hc := fun W => Tryd.strings_CutPrefix s ⟨#[48, 102]⟩ W
  rw [show (⟨#[48, 102]⟩ : ByteArray).data.toList = [48, 102] from rfl] at hc
  unfold parseL at hr
  have hz := Lib.size_eq s
  replace hE := hE.below ((Below.refl _ _).alloc (Nat.le_refl _) (Obj.cells #[Value.bool false, Value.int IntKind.u64 0] 33))
  split at hr
  · rename_i hp
    have ht : Lib.trimPrefix s.data.toList [48, 102] = s.data.toList.drop 2 := by unfold Lib.trimPrefix; rw [if_pos hp]; rfl
    rw [hp, ht] at hc
    obtain ⟨d, hd⟩ : ∃ d : ByteArray, d = ⟨(s.data.toList.drop 2).toArray⟩ := ⟨_, rfl⟩
    have hdl : d.data.toList = s.data.toList.drop 2 := by rw [hd]
    rw [← hd] at hc
    rw [← hdl] at hr
    have hz' := Lib.size_eq d
    have hf := fun W hE => parseFloat_any d (by rw [hz', hdl, List.length_drop]; omega) W hE b x e0 hr
    clear hr hd hdl hz hz' ht hp hmax
    go_enter Tryd.func39, Tryd.ntmps39
    go_wp2_with fail
    have hal : Below w.heap.size w (w.alloc (Obj.cells #[Value.bool false, Value.int IntKind.u64 0] 33)) := (Below.refl _ _).alloc (Nat.le_refl _) _
    have c0 : (w.alloc (Obj.cells #[Value.bool false, Value.int IntKind.u64 0] 33)).cell? ⟨w.heap.size, 0, none⟩ = some (.bool false) := by simp
    have c1 : (w.alloc (Obj.cells #[Value.bool false, Value.int IntKind.u64 0] 33)).cell? ⟨w.heap.size, 1, none⟩ = some (.int .u64 0) := by simp
    have z0 : (w.alloc (Obj.cells #[Value.bool false, Value.int IntKind.u64 0] 33)).frozen? ⟨w.heap.size, 0, none⟩ = false := by simp
    have z1 : (w.alloc (Obj.cells #[Value.bool false, Value.int IntKind.u64 0] 33)).frozen? ⟨w.heap.size, 1, none⟩ = false := by simp
    have ls : w.heap.size < (w.alloc (Obj.cells #[Value.bool false, Value.int IntKind.u64 0] 33)).heap.size := by simp
    generalize (w.alloc (Obj.cells #[Value.bool false, Value.int IntKind.u64 0] 33)) = w0 at *
    refine (hc _).mono ?_
    rintro e w1 ⟨rfl, rfl⟩
    go_wp2_with fail
    refine (hf _ hE).mono ?_
    rintro e w2 ⟨rfl, hb⟩
    replace c0 := cell_later hb c0
    replace c1 := cell_later hb c1
    replace z0 := (hb.frozen (p := ⟨w.heap.size, 0, none⟩) ls).trans z0
    replace z1 := (hb.frozen (p := ⟨w.heap.size, 1, none⟩) ls).trans z1
    replace hal := hal.trans (hb.mono (Nat.le_of_lt ls))
    replace ls := Nat.lt_of_lt_of_le ls hb.size
    clear hb
    go_wp2_with fail
    refine bodyPost_ret (v := .tuple #[.agg #[.bool b, .int .u64 x], .int .i64 e0]) (by simp [results, Tryd.results39, go_sem, c0, c1]) rfl ⟨rfl, (hal.setCell (Nat.le_refl _) _).setCell (Nat.le_refl _) _⟩
  · rename_i hp
    rw [Bool.eq_false_iff.2 hp] at hc
    have hf := fun W hE => parseInt_any s hmax W hE b x e0 hr
    clear hr hz hp hmax
    generalize Lib.trimPrefix s.data.toList [48, 102] = d at hc
    go_enter Tryd.func39, Tryd.ntmps39
    go_wp2_with fail
    have hal : Below w.heap.size w (w.alloc (Obj.cells #[Value.bool false, Value.int IntKind.u64 0] 33)) := (Below.refl _ _).alloc (Nat.le_refl _) _
    have c0 : (w.alloc (Obj.cells #[Value.bool false, Value.int IntKind.u64 0] 33)).cell? ⟨w.heap.size, 0, none⟩ = some (.bool false) := by simp
    have c1 : (w.alloc (Obj.cells #[Value.bool false, Value.int IntKind.u64 0] 33)).cell? ⟨w.heap.size, 1, none⟩ = some (.int .u64 0) := by simp
    have z0 : (w.alloc (Obj.cells #[Value.bool false, Value.int IntKind.u64 0] 33)).frozen? ⟨w.heap.size, 0, none⟩ = false := by simp
    have z1 : (w.alloc (Obj.cells #[Value.bool false, Value.int IntKind.u64 0] 33)).frozen? ⟨w.heap.size, 1, none⟩ = false := by simp
    have ls : w.heap.size < (w.alloc (Obj.cells #[Value.bool false, Value.int IntKind.u64 0] 33)).heap.size := by simp
    generalize (w.alloc (Obj.cells #[Value.bool false, Value.int IntKind.u64 0] 33)) = w0 at *
    refine (hc _).mono ?_
    rintro e w1 ⟨rfl, rfl⟩
    go_wp2_with fail
    refine (hf _ hE).mono ?_
    rintro e w2 ⟨rfl, hb⟩
    replace c0 := cell_later hb c0
    replace c1 := cell_later hb c1
    replace z0 := (hb.frozen (p := ⟨w.heap.size, 0, none⟩) ls).trans z0
    replace z1 := (hb.frozen (p := ⟨w.heap.size, 1, none⟩) ls).trans z1
    replace hal := hal.trans (hb.mono (Nat.le_of_lt ls))
    replace ls := Nat.lt_of_lt_of_le ls hb.size
    clear hb
    go_wp2_with fail
    refine bodyPost_ret (v := .tuple #[.agg #[.bool b, .int .u64 x], .int .i64 e0]) (by simp [results, Tryd.results39, go_sem, c0, c1]) rfl ⟨rfl, (hal.setCell (Nat.le_refl _) _).setCell (Nat.le_refl _) _⟩

end Go.Proofs.YtkeeglpbhjnmdaaDoor
