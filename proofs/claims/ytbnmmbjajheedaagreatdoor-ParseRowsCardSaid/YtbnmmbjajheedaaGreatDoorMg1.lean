import Derived.Test.YtbnmmbjajheedaaGreatDoorShelf
import Derived.Test.YtbnmmbjajheedaaGreatDoorChecked
import Derived.WalkKit
import Derived.WalkSpells
import Derived.WalkLawsBesides
import Derived.Deep.RegionHeld3
import Derived.Deep.DeepCutAuto
import Derived.KernelRfl
import Derived.Lib.Hide
import Derived.Lib.ItoaWalk
import Derived.Lib.LaidTab
import Derived.Stop.LaidErr
import Derived.Laws.Strings3
import Derived.Maps.OwnSet
import Derived.Maps.OwnOps
import Derived.Maps.Views
import Derived.Deep.AppendLies
import Derived.Laws.EntriesVeiled
import Derived.OpenShut
import Derived.ProofKit
import Derived.RegionTactic
import Derived.BigRegion
import Derived.Lib.ConvBytes
import Derived.Lib.AtoiAllMem
import Derived.Laws.Closers25
import Derived.Laws.Closers25b
import Derived.Shelf.Strings.SlTrimAscii
import Derived.Laws.StructEq
import Derived.Lib.ParseIntBCases
import Derived.Lib.ParseIntBTie
/- Numbers as they lie; digits: what the contracts of Parse lean on. -/
namespace Go.Proofs.YtbnmmbjajheedaaGreatDoor
open Go.RowKit
theorem bcell {W w1 : World} (hb : Below W.heap.size W w1) : (∀ b o, b < W.heap.size → w1.cell? ⟨b, o, none⟩ = W.cell? ⟨b, o, none⟩) ∧ (∀ b o, b < W.heap.size → w1.frozen? ⟨b, o, none⟩ = W.frozen? ⟨b, o, none⟩) :=
  ⟨fun b o h => hb.cell (p := ⟨b, o, none⟩) h, fun b o h => hb.frozen (p := ⟨b, o, none⟩) h⟩


set_option maxHeartbeats 400000 in
theorem int_any (n : Int) (w : World) :
    Calls Tryz.prog 158 #[.int .i64 n] w fun e w' => e = .returned (.agg #[.bool false, .int .u64 (IntKind.u64.wrap n)]) ∧ Below w.heap.size w w' := by
  go_enter Tryz.func158, Tryz.ntmps158
  go_wp2
  exact bodyPost_ret (v := .agg #[.bool false, .int .u64 (IntKind.u64.wrap n)]) (by simp [results, Tryz.results158, go_sem]) rfl ⟨rfl, (Below.refl _ _).alloc (Nat.le_refl _) _⟩


/-- What a cell holds. -/
def cellv (w : World) (a : Addr) : Value := (w.cell? a).getD undef


theorem cellv_of {w : World} {a : Addr} {v : Value} (h : w.cell? a = some v) : w.cell? a = some (cellv w a) := by
  rw [cellv, h]; rfl


/-- A hex digit's byte. -/
def hd (d : Nat) : Int := if d < 10 then 48 + d else 87 + d


/-- A hex digit's byte, as a byte. -/
def hdB (d : Nat) : UInt8 := if d < 10 then UInt8.ofNat (48 + d) else UInt8.ofNat (87 + d)


theorem hdB_hd (d : Nat) (h : d < 16) : ((hdB d).toNat : Int) = hd d := by
  have h : d = 0 ∨ d = 1 ∨ d = 2 ∨ d = 3 ∨ d = 4 ∨ d = 5 ∨ d = 6 ∨ d = 7 ∨ d = 8 ∨ d = 9 ∨ d = 10 ∨ d = 11 ∨ d = 12 ∨ d = 13 ∨ d = 14 ∨ d = 15 := by omega
  rcases h with h | h | h | h | h | h | h | h | h | h | h | h | h | h | h | h <;> subst h <;> rfl


/-- The k + 1 digits of u to base 16. -/
def hexK (u k : Nat) : List UInt8 := (List.range (k + 1)).map fun j => hdB (u / 16 ^ (k - j) % 16)


/-- A number's digits to base 16, without noughts ahead. -/
def hexL (u : Nat) : List UInt8 := hexK u (u.log2 / 4)


theorem hexK_length (u k : Nat) : (hexK u k).length = k + 1 := by simp [hexK]


theorem ret_str {a b : ByteArray} (h : a = b) : Ending.returned (.string a) = .returned (.string b) := by rw [h]


theorem wrap64_range (x : Int) : -9223372036854775808 ≤ wrap64 x ∧ wrap64 x ≤ 9223372036854775807 := by unfold wrap64; omega


/-- A float's text: 0f, and its bits as sixteen digits. -/
def fltL (b : Nat) : List UInt8 := 48 :: 102 :: (List.replicate (16 - (hexL b).length) 48 ++ hexL b)


theorem hexL_length (u : Nat) (hu : u < 18446744073709551616) : (hexL u).length ≤ 16 ∧ 1 ≤ (hexL u).length := by
  unfold hexL; rw [hexK_length]
  by_cases h : u = 0
  · subst h; decide
  · have : u.log2 < 64 := (Nat.log2_lt h).2 hu
    omega


theorem stepB {w W W' : World} (h : Below w.heap.size w W) (hb : Below W.heap.size W W') : Below w.heap.size w W' := h.trans (hb.mono h.size)


/-- An int's bits. -/
def U (a : Int) : Int := IntKind.u64.wrap a


/-- Within 64 bits. -/
def InR (a : Int) : Prop := -9223372036854775808 ≤ a ∧ a ≤ 9223372036854775807


theorem U_eq (a : Int) : U a = a % 18446744073709551616 := by unfold U; exact IntKind.wrap_u64 a

theorem wrap64_U (a : Int) (h : InR a) : wrap64 (U a) = a := by obtain ⟨h1, h2⟩ := h; rw [U_eq]; unfold wrap64; omega

theorem U_wrap64 (a : Int) : U (wrap64 a) = U a := by rw [U_eq, U_eq]; unfold wrap64; omega

theorem InR_wrap64 (a : Int) : InR (wrap64 a) := wrap64_range a

theorem i64wrap (a : Int) : IntKind.i64.wrap a = wrap64 a := by unfold wrap64; exact IntKind.wrap_i64 a

theorem U_inj {a b : Int} (ha : InR a) (hb : InR b) (h : U a = U b) : a = b := by rw [← wrap64_U a ha, ← wrap64_U b hb, h]


theorem int_U (a : Int) (w : World) : Calls Tryz.prog 158 #[.int .i64 a] w fun e w' => e = .returned (.agg #[.bool false, .int .u64 (U a)]) ∧ Below w.heap.size w w' := int_any a w


end Go.Proofs.YtbnmmbjajheedaaGreatDoor

/- A map from texts to kinds that the call itself has made; kindsOfRuns. -/
namespace Go.Proofs.YtbnmmbjajheedaaGreatDoor
open Go.RowKit

theorem later' {w w' : World} (hb : Below w.heap.size w w') {a : Addr} {v : Value} (h : w.cell? a = some v) : w'.cell? a = some v := (hb.cell (World.block_lt_of_cell? _ _ h)).trans h
theorem onB' {a b c : World} (h : Below a.heap.size a b) (k : Below b.heap.size b c) : Below a.heap.size a c := h.trans (k.mono h.size)

/-- A MAP OF KINDS: what stands at each text. -/
def KMap (w : World) (b n : Nat) (f : List UInt8 → Option Int) : Prop :=
  ∃ D : DataW Unit, w.ownsMap Tryz.prog 9 (plainElem Tryz.prog 3) b n D ∧ (∀ l, D.atKey (.string l) (.lit (.int .i64 0)) = .lit (.int .i64 ((f l).getD 0))) ∧ ∀ l, Maps.has D (.string l) = (f l).isSome

theorem kmap_made (w : World) : KMap (w.alloc (.map #[] 0)) w.heap.size 0 (fun _ => none) := by
  refine ⟨_, World.ownsMap_made w _ _ _, fun l => rfl, fun l => ?_⟩
  simp [Maps.has]
theorem KMap.same {w w' : World} {b n : Nat} {f : List UInt8 → Option Int} (h : KMap w b n f) (hk : w'.heap[b]? = w.heap[b]?) : KMap w' b n f := by
  obtain ⟨D, ⟨es, c, hb, r⟩, h2⟩ := h
  exact ⟨D, ⟨es, c, hk.trans hb, r⟩, h2⟩
theorem KMap.lt {w : World} {b n : Nat} {f : List UInt8 → Option Int} (h : KMap w b n f) : b < w.heap.size := by
  obtain ⟨D, h1, h2⟩ := h
  exact h1.lt
theorem KMap.later {w w' : World} {b n : Nat} {f : List UInt8 → Option Int} (h : KMap w b n f) (hb : Below w.heap.size w w') : KMap w' b n f := h.same (hb.block b h.lt)
theorem KMap.to {w : World} {b n : Nat} {f g : List UInt8 → Option Int} (h : KMap w b n f) (e : ∀ l, g l = f l) : KMap w b n g := by
  obtain rfl : g = f := funext e
  exact h
set_option maxRecDepth 100000 in
theorem zero_int (w : World) : (zeroValue 3).run Tryz.prog w = .ok (.int .i64 0) w := rfl
theorem key_of (s : ByteArray) (hs : s.size ≤ maxLen) : keyOf Tryz.prog 9 (.string s) = some (.string s.data.toList) := WideMaps.keyOf_string_mk Tryz.underlying9 hs
set_option maxRecDepth 100000 in
theorem KMap.look {w : World} {b n : Nat} {f : List UInt8 → Option Int} (h : KMap w b n f) (s : ByteArray) (hs : s.size ≤ maxLen) :
    (Instr.lookup 117 (.map (some b)) (.string s) false).run Tryz.prog w = .ok (.int .i64 ((f s.data.toList).getD 0)) w := by
  obtain ⟨D, h1, h2, -⟩ := h
  obtain ⟨c, hr, hat, _⟩ := h1.lookup_int (Maps.string_keyed Tryz.underlying9) Tryz.underlying117 Tryz.underlying3 (zero_int _) (key_of s hs)
  rw [h2] at hat
  injection hat with hat
  injection hat with _ hat
  rw [hat]
  exact hr
set_option maxRecDepth 100000 in
theorem KMap.look_ok {w : World} {b n : Nat} {f : List UInt8 → Option Int} (h : KMap w b n f) (s : ByteArray) (hs : s.size ≤ maxLen) :
    (Instr.lookup 117 (.map (some b)) (.string s) true).run Tryz.prog w = .ok (.tuple #[.int .i64 ((f s.data.toList).getD 0), .bool (f s.data.toList).isSome]) w := by
  obtain ⟨D, h1, h2, h3⟩ := h
  obtain ⟨v, ps, hr, hv⟩ := h1.look_ok (Maps.string_keyed Tryz.underlying9) Tryz.underlying117 (zero_int _) (plainElem_int Tryz.underlying3 (by decide)) (key_of s hs)
  rw [h2] at hv
  obtain ⟨c, rfl, hc, hwc⟩ := plainElem_int_inv Tryz.underlying3 hv
  simp only [Prod.mk.injEq, DataW.lit.injEq, Lit.int.injEq, true_and] at hc
  rw [h3] at hr
  rw [hc.1]
  exact hr

def kput (f : List UInt8 → Option Int) (k : List UInt8) (u : Int) : List UInt8 → Option Int := fun l => if l = k then some u else f l

theorem KMap.put {w : World} {b n : Nat} {f : List UInt8 → Option Int} {D : DataW Unit} {k : List UInt8} {u : Int} (hT : Maps.Tidy D)
    (h1 : w.ownsMap Tryz.prog 9 (plainElem Tryz.prog 3) b n (D.put (.string k) (.lit (.int .i64 u)))) (h2 : ∀ l, D.atKey (.string l) (.lit (.int .i64 0)) = .lit (.int .i64 ((f l).getD 0))) (h3 : ∀ l, Maps.has D (.string l) = (f l).isSome) : KMap w b n (kput f k u) := by
  refine ⟨_, h1, fun l => ?_, fun l => ?_⟩
  · unfold kput
    by_cases e : l = k
    · subst e
      rw [if_pos rfl, Maps.atKey_put_same hT.isMap (by trivial)]
      rfl
    · rw [if_neg e, Maps.atKey_put_other (by simpa using e)]
      exact h2 l
  · unfold kput
    by_cases e : l = k
    · subst e
      rw [Maps.has_put_same hT.isMap (by trivial), if_pos rfl]
      rfl
    · rw [Maps.has_put_other (by simpa using e), h3, if_neg e]

theorem KMap.store {w : World} {b n : Nat} {f : List UInt8 → Option Int} (h : KMap w b n f) (hn : n < 100000) (s : ByteArray) (hs : s.size ≤ maxLen) (u : Int) (hu : (Lit.int .i64 u).wf = true) :
    ∃ w', (Instr.mapUpdate 117 (.map (some b)) (.string s) (.int .i64 u)).run Tryz.prog w = .ok () w' ∧ KMap w' b (n + 1) (kput f s.data.toList u) ∧ w.grownBy w' (some b) := by
  obtain ⟨D, h1, h2, h3⟩ := h
  obtain ⟨w', hrun, r1, r2⟩ := h1.update (Maps.string_keyed Tryz.underlying9) Tryz.underlying117 (by unfold maxLen; omega) (key_of s hs) (plainElem_int Tryz.underlying3 hu)
  exact ⟨w', hrun, KMap.put (h1.tidy (Maps.string_keyed Tryz.underlying9)) r1 h2 h3, r2⟩
/-- A store into it, as an operation; as a literal's entry. -/
theorem wp_kput {o : Oper} {a : Act} {K : Act → World → Prop} {Q : Exit → Act → World → Prop} (w : World) (m x v : Operand) (hop : o.op = Op.mapUpdate 117 m x v ∨ o.op = Op.insert 117 m x v)
    (b n : Nat) (f : List UInt8 → Option Int) (hm : a.eval m = .map (some b)) (h : KMap w b n f) (hn : n < 100000) (s : ByteArray) (hs : s.size ≤ maxLen) (u : Int) (hx : a.eval x = .string s) (hv : a.eval v = .int .i64 u) (hu : (Lit.int .i64 u).wf = true)
    (hK : ∀ w', KMap w' b (n + 1) (kput f s.data.toList u) → w.grownBy w' (some b) → K (a.put o.dst undef) w') : Oper.wp Tryz.prog o a w K Q := by
  obtain ⟨D, h1, h2, h3⟩ := h
  obtain ⟨w', hrun, r1, r2⟩ := h1.update (Maps.string_keyed Tryz.underlying9) Tryz.underlying117 (by unfold maxLen; omega) (key_of s hs) (plainElem_int Tryz.underlying3 hu)
  unfold Oper.wp
  have hk := hK w' (KMap.put (h1.tidy (Maps.string_keyed Tryz.underlying9)) r1 h2 h3) r2
  rcases hop with hop | hop <;> simp [execOp, hop, hm, hx, hv, hrun, Result.andThen] <;> exact hk
theorem list_kput {ops : Array Oper} {rest : List Oper} {o : Oper} {a : Act} {Q : Exit → Act → World → Prop} (w : World) (hg : o.guard = none) (m x v : Operand) (hop : o.op = Op.mapUpdate 117 m x v ∨ o.op = Op.insert 117 m x v)
    (b n : Nat) (f : List UInt8 → Option Int) (hm : a.eval m = .map (some b)) (h : KMap w b n f) (hn : n < 100000) (s : ByteArray) (hs : s.size ≤ maxLen) (u : Int) (hx : a.eval x = .string s) (hv : a.eval v = .int .i64 u) (hu : (Lit.int .i64 u).wf = true)
    (hK : ∀ w', KMap w' b (n + 1) (kput f s.data.toList u) → w.grownBy w' (some b) → wpList Tryz.prog ops Q rest (a.put o.dst undef) w') : wpList Tryz.prog ops Q (o :: rest) a w :=
  wpList_plain hg fun _ hK' => wp_kput w m x v hop b n f hm h hn s hs u hx hv hu fun w' h1 h2 => hK' _ _ (hK w' h1 h2)
theorem step_kput {ops : Array Oper} {o : Oper} {a : Act} {K : Act → World → Prop} {Q : Exit → Act → World → Prop} {E : Prop} (w : World) (hg : o.guard = none) (m x v : Operand) (hop : o.op = Op.mapUpdate 117 m x v ∨ o.op = Op.insert 117 m x v)
    (b n : Nat) (f : List UInt8 → Option Int) (hm : a.eval m = .map (some b)) (h : KMap w b n f) (hn : n < 100000) (s : ByteArray) (hs : s.size ≤ maxLen) (u : Int) (hx : a.eval x = .string s) (hv : a.eval v = .int .i64 u) (hu : (Lit.int .i64 u).wf = true)
    (hK : ∀ w', KMap w' b (n + 1) (kput f s.data.toList u) → w.grownBy w' (some b) → K (a.put o.dst undef) w') :
    if Region.wanted o (yielded ops a.tmps) = true then Oper.wp Tryz.prog o a w K Q else E := by
  have hw : Region.wanted o (yielded ops a.tmps) = true := by simp [Region.wanted, hg]
  rw [if_pos hw]
  exact wp_kput w m x v hop b n f hm h hn s hs u hx hv hu hK

/-- Each byte of some, alone. -/
def kputs (f : List UInt8 → Option Int) (l : List UInt8) (u : Int) : List UInt8 → Option Int := fun r => if ∃ c, c ∈ l ∧ r = [c] then some u else f r
theorem kputs_nil (f : List UInt8 → Option Int) (u : Int) : kputs f [] u = f := by
  funext r
  unfold kputs
  rw [if_neg (by rintro ⟨c, hc, _⟩; cases hc)]
theorem kputs_snoc (f : List UInt8 → Option Int) (l : List UInt8) (c : UInt8) (u : Int) : kputs f (l ++ [c]) u = kput (kputs f l u) [c] u := by
  funext r
  unfold kputs kput
  by_cases e : r = [c]
  · rw [if_pos e, if_pos ⟨c, by simp, e⟩]
  · rw [if_neg e]
    show _ = (if ∃ c, c ∈ l ∧ r = [c] then some u else f r)
    by_cases g : ∃ x, x ∈ l ∧ r = [x]
    · rw [if_pos g, if_pos (by obtain ⟨x, h1, h2⟩ := g; exact ⟨x, by simp [h1], h2⟩)]
    · rw [if_neg g, if_neg]
      rintro ⟨x, h1, h2⟩
      rcases List.mem_append.1 h1 with h1 | h1
      · exact g ⟨x, h1, h2⟩
      · rw [List.mem_singleton] at h1
        subst h1
        exact e h2
theorem byte_of (s : ByteArray) (j : Nat) (h : j < s.size) : (s.extract j (j + 1)).data.toList = [s[j]] ∧ s.data.toList.take (j + 1) = s.data.toList.take j ++ [s[j]] := by
  have hl : j < s.data.toList.length := by simpa using h
  constructor
  · have : (s.extract j (j + 1)).data.toList = (s.data.toList.drop j).take (j + 1 - j) := by simp [ByteArray.data_extract]
    rw [this, List.drop_eq_getElem_cons hl, show j + 1 - j = 1 by omega]
    rfl
  · rw [List.take_succ_eq_append_getElem hl]
    rfl

end Go.Proofs.YtbnmmbjajheedaaGreatDoor

/- kindsOfRuns: which kind a run is. -/
namespace Go.Proofs.YtbnmmbjajheedaaGreatDoor
open Go.RowKit

set_option maxHeartbeats 4000000 in
set_option maxRecDepth 100000 in
theorem begins_any (s : ByteArray) (hs : s.size ≤ 1000) (kind : Int) (hk : (Lit.int .i64 kind).wf = true) (b kb n : Nat) (hn : n ≤ 1000) (f : List UInt8 → Option Int) (w : World) (hc : w.cell? ⟨b, 0, none⟩ = some (.map (some kb))) (hb : b ≠ kb) (hM : KMap w kb n f) :
    Calls Tryz.prog 104 #[.string s, .int .i64 kind, .pointer (some ⟨b, 0, none⟩)] w fun e w' => (∃ v, e = .returned v) ∧ KMap w' kb (n + s.size) (kputs f s.data.toList kind) ∧ w.grownBy w' (some kb) := by
  have HM := Lib.hid hM
  have HK := Lib.hid hk
  clear hM hk
  go_enter Tryz.func104, Tryz.ntmps104
  go_wp2_with fail
  go_loopw [8] (fun s8 wr => ∃ j : Nat, j ≤ s.size ∧ s8 = .int .i64 j ∧ KMap wr kb (n + j) (kputs f (s.data.toList.take j) kind) ∧ w.grownBy wr (some kb)) (fun s8 _ => s.size - (intOf s8).toNat)
  case atStart => exact ⟨0, Nat.zero_le _, rfl, by rw [List.take_zero, kputs_nil]; exact HM.out, ⟨rfl, rfl, rfl, Nat.le_refl _, fun _ _ _ => rfl⟩⟩
  case round =>
    obtain ⟨j, hj, rfl, hm, hg⟩ := hrel
    have HJ := Lib.hid (And.intro hm hg)
    have hc1 := hg.cell hc (by simpa using hb)
    clear hm hg
    by_cases hlt : j < s.size
    · have hlt' : (j : Int) < (s.size : Int) := by omega
      have e1 : IntKind.i64.wrap ((j : Int) + 1) = (j : Int) + 1 := by rw [IntKind.wrap_i64]; omega
      have e2 : ((j : Int) + 1).toNat = j + 1 := by omega
      obtain ⟨q1, q2⟩ := byte_of s j hlt
      have hcd : wr.drew.cell? ⟨b, 0, none⟩ = some (.map (some kb)) := hc1
      have HD := Lib.hid (show KMap wr.drew kb (n + j) (kputs f (s.data.toList.take j) kind) from HJ.out.1.same rfl)
      have HQ := Lib.hid (And.intro q1 q2)
      have hsz : (s.extract j (j + 1)).size ≤ maxLen := by
        rw [Lib.size_eq, q1]
        exact Nat.le_trans (Nat.le_refl 1) (by unfold maxLen; omega)
      clear q1 q2
      have b1 : (0 : Int) ≤ (j : Int) + 1 := by omega
      have b2 : (j : Int) + 1 ≤ (s.size : Int) := by omega
      have b3 : (j : Int) ≤ (j : Int) + 1 := by omega
      go_wp2_with fail
      obtain ⟨w7, hrun, m7, g7⟩ := HD.out.store (by omega) (s.extract j (j + 1)) hsz kind HK.out
      rw [HQ.out.1, ← kputs_snoc, ← HQ.out.2] at m7
      have H7 := Lib.hid (And.intro m7 g7)
      clear m7 g7
      go_region
      all_goals go_wp2_with fail
      all_goals exact ⟨⟨j + 1, by omega, by go_num, H7.out.1, ⟨H7.out.2.os.trans HJ.out.2.os, H7.out.2.tape.trans HJ.out.2.tape, H7.out.2.output.trans HJ.out.2.output, Nat.le_trans HJ.out.2.size H7.out.2.size, fun k hk hne => (H7.out.2.block k (Nat.lt_of_lt_of_le hk HJ.out.2.size) hne).trans (HJ.out.2.block k hk hne)⟩⟩, by simp [intOf]; omega⟩
    · obtain rfl : j = s.size := by omega
      go_wp2_with fail
      go_end0
      exact ⟨⟨_, rfl⟩, by have := HJ.out.1; rwa [List.take_of_length_le (by simp)] at this, HJ.out.2⟩

/-- The texts of the bytes that begin a name, a constructor, a number. -/
def smallsB : ByteArray := ⟨#[97, 98, 99, 100, 101, 102, 103, 104, 105, 106, 107, 108, 109, 110, 111, 112, 113, 114, 115, 116, 117, 118, 119, 120, 121, 122]⟩
def capsB : ByteArray := ⟨#[65, 66, 67, 68, 69, 70, 71, 72, 73, 74, 75, 76, 77, 78, 79, 80, 81, 82, 83, 84, 85, 86, 87, 88, 89, 90]⟩
def digsB : ByteArray := ⟨#[48, 49, 50, 51, 52, 53, 54, 55, 56, 57]⟩
/-- Which kind stands at a text. -/
def wordF : List UInt8 → Option Int := (kput (kput (kput (kput (kput (kput (kput (kput (kput (kput (fun _ => none) [108, 101, 116] 5) [105, 110] 5) [99, 97, 115, 101] 5) [111, 102] 5) [100, 97, 116, 97] 5) [119, 101, 97, 107] 7) [100, 101, 114, 101, 102] 7) [115, 101, 113] 7) [102, 108, 111, 97, 116] 7) [116, 114, 117, 110, 99] 7)
def kindF : List UInt8 → Option Int := kputs (kputs (kputs wordF smallsB.data.toList 1) capsB.data.toList 2) digsB.data.toList 3

theorem below_grown {n kb : Nat} {w a b : World} (h : Below n w a) (hg : a.grownBy b (some kb)) (hn : n ≤ kb) (hs : n ≤ a.heap.size) : Below n w b :=
  ⟨hg.os.trans h.os, hg.tape.trans h.tape, hg.output.trans h.output, Nat.le_trans h.size hg.size, fun k hk => (hg.block k (by omega) (fun e => by have := Option.some.inj e; omega)).trans (h.block k hk)⟩

def KindsSaid (w : World) (e : Ending) (w' : World) : Prop := ∃ kb, e = .returned (.map (some kb)) ∧ w.heap.size ≤ kb ∧ KMap w' kb 72 kindF ∧ Below w.heap.size w w'
set_option maxHeartbeats 8000000 in
set_option maxRecDepth 100000 in
theorem kinds_any (w : World) : Calls Tryz.prog 67 #[] w (KindsSaid w) := by
  have hmk : ∀ W, (Instr.makeMap 117 none).run Tryz.prog W = .ok (.map (some W.heap.size)) (W.alloc (.map #[] 0)) := fun W => rfl
  have m0 := kmap_made w
  have b0 : Below w.heap.size w (w.alloc (.map #[] 0)) := (Below.refl _ _).alloc (Nat.le_refl _) _
  have z0 : w.heap.size + 1 = (w.alloc (.map #[] 0)).heap.size := by simp
  obtain ⟨w1, r1, m1, g1⟩ := m0.store (by omega) ⟨#[108, 101, 116]⟩ (by decide) 5 (by decide)
  have b1 := below_grown b0 g1 (Nat.le_refl _) b0.size
  obtain ⟨w2, r2, m2, g2⟩ := m1.store (by omega) ⟨#[105, 110]⟩ (by decide) 5 (by decide)
  have b2 := below_grown b1 g2 (Nat.le_refl _) b1.size
  obtain ⟨w3, r3, m3, g3⟩ := m2.store (by omega) ⟨#[99, 97, 115, 101]⟩ (by decide) 5 (by decide)
  have b3 := below_grown b2 g3 (Nat.le_refl _) b2.size
  obtain ⟨w4, r4, m4, g4⟩ := m3.store (by omega) ⟨#[111, 102]⟩ (by decide) 5 (by decide)
  have b4 := below_grown b3 g4 (Nat.le_refl _) b3.size
  obtain ⟨w5, r5, m5, g5⟩ := m4.store (by omega) ⟨#[100, 97, 116, 97]⟩ (by decide) 5 (by decide)
  have b5 := below_grown b4 g5 (Nat.le_refl _) b4.size
  obtain ⟨w6, r6, m6, g6⟩ := m5.store (by omega) ⟨#[119, 101, 97, 107]⟩ (by decide) 7 (by decide)
  have b6 := below_grown b5 g6 (Nat.le_refl _) b5.size
  obtain ⟨w7, r7, m7, g7⟩ := m6.store (by omega) ⟨#[100, 101, 114, 101, 102]⟩ (by decide) 7 (by decide)
  have b7 := below_grown b6 g7 (Nat.le_refl _) b6.size
  obtain ⟨w8, r8, m8, g8⟩ := m7.store (by omega) ⟨#[115, 101, 113]⟩ (by decide) 7 (by decide)
  have b8 := below_grown b7 g8 (Nat.le_refl _) b7.size
  obtain ⟨w9, r9, m9, g9⟩ := m8.store (by omega) ⟨#[102, 108, 111, 97, 116]⟩ (by decide) 7 (by decide)
  have b9 := below_grown b8 g9 (Nat.le_refl _) b8.size
  obtain ⟨w10, r10, m10, g10⟩ := m9.store (by omega) ⟨#[116, 114, 117, 110, 99]⟩ (by decide) 7 (by decide)
  have b10 := below_grown b9 g10 (Nat.le_refl _) b9.size
  have hm : KMap w10 w.heap.size 10 wordF := m10
  have hs10 : w.heap.size + 1 ≤ w10.heap.size := by have := hm.lt; omega
  have hb := Lib.hid b10
  have HM := Lib.hid hm
  clear m0 b0 m1 b1 m2 b2 m3 b3 m4 b4 m5 b5 m6 b6 m7 b7 m8 b8 m9 b9 m10 b10 hm g1 g2 g3 g4 g5 g6 g7 g8 g9 g10
  go_enter Tryz.func67, Tryz.ntmps67
  go_upto_region 2 with fail
  have hx := (Below.refl w10.heap.size w10).alloc (Nat.le_refl _) (.cells #[.map (some w.heap.size)] 117)
  have hc := (show (w10.alloc (.cells #[.map (some w.heap.size)] 117)).cell? ⟨w10.heap.size, 0, none⟩ = some (.map (some w.heap.size)) by simp [go_sem])
  have HX := Lib.hid (And.intro (HM.out.later hx) (onB' hb.out hx))
  clear hx
  generalize (w10.alloc (.cells #[.map (some w.heap.size)] 117)) = W at *
  have hsz := HX.out.2.size
  go_wp2_with fail
  refine (begins_any smallsB (by decide) 1 (by decide) w10.heap.size w.heap.size 10 (by decide) wordF W hc (by omega) HX.out.1).mono ?_
  rintro e w11 ⟨⟨v, rfl⟩, q1, g1⟩
  replace hc := g1.cell hc (by simp; omega)
  have H11 := Lib.hid (And.intro q1 (below_grown HX.out.2 g1 (Nat.le_refl _) hsz))
  have hs11 := H11.out.2.size
  clear q1 g1
  go_wp2_with fail
  refine (begins_any capsB (by decide) 2 (by decide) w10.heap.size w.heap.size _ (by decide) _ w11 hc (by omega) H11.out.1).mono ?_
  rintro e w12 ⟨⟨v2, rfl⟩, q1, g1⟩
  replace hc := g1.cell hc (by simp; omega)
  have H12 := Lib.hid (And.intro q1 (below_grown H11.out.2 g1 (Nat.le_refl _) hs11))
  have hs12 := H12.out.2.size
  clear q1 g1
  go_wp2_with fail
  refine (begins_any digsB (by decide) 3 (by decide) w10.heap.size w.heap.size _ (by decide) _ w12 hc (by omega) H12.out.1).mono ?_
  rintro e w13 ⟨⟨v3, rfl⟩, q1, g1⟩
  replace hc := g1.cell hc (by simp; omega)
  have H13 := Lib.hid (And.intro q1 (below_grown H12.out.2 g1 (Nat.le_refl _) hs12))
  clear q1 g1
  go_wp2_with fail
  go_ret
  exact ⟨_, rfl, Nat.le_refl _, H13.out.1, H13.out.2⟩

end Go.Proofs.YtbnmmbjajheedaaGreatDoor

/- The library's reading of hexadecimal digits, as far as the number layer asks it. -/
namespace Go.Proofs.YtbnmmbjajheedaaGreatDoor
open Go.RowKit

/-- A small hexadecimal digit; what it stands for; what a row of them stands for. -/
def isHex (c : UInt8) : Bool := decide (48 ≤ c.toNat ∧ c.toNat ≤ 57) || decide (97 ≤ c.toNat ∧ c.toNat ≤ 102)
def hexV (c : UInt8) : Nat := if c.toNat ≤ 57 then c.toNat - 48 else c.toNat - 87
def hexN (acc : Nat) : List UInt8 → Nat
  | [] => acc
  | c :: r => hexN (acc * 16 + hexV c) r

theorem bytes_below (w : World) (t : ByteArray) : Below w.heap.size w (Lib.bytesWorld w 5 t) := by
  exact Lib.bytesWorld_below _ _ _

theorem lower_small (c : UInt8) (h0 : 97 ≤ c.toNat) (h1 : c.toNat ≤ 102) : bits .or .u8 (c.toNat : Int) 32 = (c.toNat : Int) := by
  have : c.toNat = 97 ∨ c.toNat = 98 ∨ c.toNat = 99 ∨ c.toNat = 100 ∨ c.toNat = 101 ∨ c.toNat = 102 := by omega
  rcases this with h | h | h | h | h | h <;> rw [h] <;> decide

theorem pow16 {k : Nat} (h : k ≤ 15) : 16 ^ k ≤ 1152921504606846976 := Nat.le_trans (Nat.pow_le_pow_right (by decide) h) (by decide)

set_option maxHeartbeats 32000000 in
set_option maxRecDepth 100000 in
theorem uint16_good (t : ByteArray) (hne : t.size ≠ 0) (hmax : t.size ≤ 16) (hall : ∀ c ∈ t.data.toList, isHex c = true) (w : World) :
    Calls Tryz.prog 171 #[.string t, .int .i64 16, .int .i64 64] w fun e w' => e = .returned (.tuple #[.int .u64 (hexN 0 t.data.toList : Nat), .nilIface]) ∧ w' = Lib.bytesWorld w 5 t := by
  have hemp : t.toList.isEmpty = false := by
    rw [← decide_eq_emptyBytes]
    exact decide_eq_false (fun h => hne (by rw [h]; rfl))
  have hcv := Lib.run_convert_string_bytes (P := Tryz.prog) w 9 89 5 t (u := .string) Tryz.underlying9 Tryz.underlying89 Tryz.underlying5
  have hB : ∀ j, j < t.size → (Lib.bytesWorld w 5 t).cell? ⟨w.heap.size, j, none⟩ = some (.int .u8 (t.data.toList.getD j 0).toNat) := fun j hj => Lib.bytesWorld_cell w 5 t j hj
  obtain ⟨W1, hW1⟩ : ∃ W1, W1 = Lib.bytesWorld w 5 t := ⟨_, rfl⟩
  rw [← hW1] at hcv hB ⊢
  clear hW1
  obtain ⟨bs, hL⟩ : ∃ bs, bs = t.data.toList := ⟨_, rfl⟩
  have hLn : bs.length = t.size := by rw [hL, Lib.size_eq]
  rw [← hL] at hB hall ⊢
  clear hL
  have hmv : IntKind.u64.wrap (IntKind.u64.wrap 18446744073709551616 - 1) = 18446744073709551615 := by
    rw [IntKind.wrap_u64, IntKind.wrap_u64]
    decide
  go_enter Tryz.func171, Tryz.ntmps171
  go_wp2
  go_loop [12, 13, 101] (fun vu vn vi => ∃ (k acc : Nat) (a : Int), vu = .bool false ∧ vn = .int .u64 a ∧ vi = .int .i64 k ∧ k ≤ t.size ∧ Hid (a = (acc : Int) ∧ acc < 16 ^ k ∧ hexN 0 bs = hexN acc (bs.drop k)))
    (fun _ _ vi => t.size - (intOf vi).toNat)
  case atStart => exact ⟨0, 0, 0, rfl, rfl, rfl, by omega, rfl, by decide, rfl⟩
  case round =>
    obtain ⟨k, acc, a, rfl, rfl, rfl, hk, hh⟩ := hrel
    obtain ⟨ha, hacc, hdec⟩ := hh.out
    clear hh
    by_cases hkn : k < t.size
    · have hp := pow16 (show k ≤ 15 by omega)
      have hps : 16 ^ (k + 1) = 16 ^ k * 16 := Nat.pow_succ 16 k
      have a0 : 0 ≤ a := by omega
      have a1 : a < 1152921504606846976 := by omega
      have hc := hB k hkn
      have hdrop : bs.drop k = bs[k]'(by omega) :: bs.drop (k + 1) := List.drop_eq_getElem_cons (by omega)
      have hget : bs.getD k 0 = bs[k]'(by omega) := by simp [List.getD, List.getElem?_eq_getElem (show k < bs.length by omega)]
      have hx : isHex (bs[k]'(by omega)) = true := hall _ (List.getElem_mem _)
      rw [hdrop] at hdec
      rw [hget] at hc
      generalize bs[k]'(by omega) = c at hc hdec hx
      have hc256 : c.toNat < 256 := c.toNat_lt
      simp only [isHex, Bool.or_eq_true, decide_eq_true_eq] at hx
      clear hB hdrop hget hall
      rcases hx with ⟨hd0, hd1⟩ | ⟨hd0, hd1⟩
      · have hv : hexV c = c.toNat - 48 := by unfold hexV; rw [if_pos hd1]
        have HN : Hid (a * 16 + ((c.toNat : Int) - 48) = ((acc * 16 + hexV c : Nat) : Int) ∧ acc * 16 + hexV c < 16 ^ (k + 1) ∧ hexN 0 bs = hexN (acc * 16 + hexV c) (bs.drop (k + 1))) :=
          Lib.hid ⟨by rw [hv]; omega, by rw [hv]; omega, hdec⟩
        clear hacc hdec ha hp hps hv
        go_wp2
        refine ⟨⟨k + 1, acc * 16 + hexV c, a * 16 + ((c.toNat : Int) - 48), rfl, (by first | rfl | (congr 1; omega)), (by first | rfl | (congr 1; omega)), by omega, HN⟩, by simp [intOf]; omega⟩
      · have hv : hexV c = c.toNat - 87 := by unfold hexV; rw [if_neg (by omega)]
        have HN : Hid (a * 16 + ((c.toNat : Int) - 97 + 10) = ((acc * 16 + hexV c : Nat) : Int) ∧ acc * 16 + hexV c < 16 ^ (k + 1) ∧ hexN 0 bs = hexN (acc * 16 + hexV c) (bs.drop (k + 1))) :=
          Lib.hid ⟨by rw [hv]; omega, by rw [hv]; omega, hdec⟩
        have hlow := lower_small c hd0 hd1
        clear hacc hdec ha hp hps hv
        go_wp2_with (go_at_call 186; refine (Tryz.internal_strconv_lower _ _).mono ?_; rintro e w' ⟨rfl, rfl⟩; rw [hlow])
        refine ⟨⟨k + 1, acc * 16 + hexV c, a * 16 + ((c.toNat : Int) - 97 + 10), rfl, (by first | rfl | (congr 1; omega)), (by first | rfl | (congr 1; omega)), by omega, HN⟩, by simp [intOf]; omega⟩
    · have hkk : k = t.size := by omega
      subst hkk
      have hF : hexN acc (bs.drop t.size) = acc := by rw [List.drop_eq_nil_of_le (by omega)]; rfl
      rw [hF] at hdec
      subst ha
      clear hacc hF hB hall
      go_wp2
      go_ret2
      exact ⟨rfl, rfl⟩

set_option maxHeartbeats 32000000 in
set_option maxRecDepth 100000 in
theorem uint16_some (t : ByteArray) (hne : t.size ≠ 0) (hmax : t.size ≤ 140737488355328) (w : World) :
    Calls Tryz.prog 171 #[.string t, .int .i64 16, .int .i64 64] w fun e w' => (∃ x v, e = .returned (.tuple #[.int .u64 x, v]) ∧ (v = .nilIface ∨ v = .iface 201 (.int .i64 1) ∨ v = .iface 201 (.int .i64 2))) ∧ Below w.heap.size w w' := by
  have hemp : t.toList.isEmpty = false := by
    rw [← decide_eq_emptyBytes]
    exact decide_eq_false (fun h => hne (by rw [h]; rfl))
  have hcv := Lib.run_convert_string_bytes (P := Tryz.prog) w 9 89 5 t (u := .string) Tryz.underlying9 Tryz.underlying89 Tryz.underlying5
  have hB : ∀ j, j < t.size → (Lib.bytesWorld w 5 t).cell? ⟨w.heap.size, j, none⟩ = some (.int .u8 (t.data.toList.getD j 0).toNat) := fun j hj => Lib.bytesWorld_cell w 5 t j hj
  have hW : Below w.heap.size w (Lib.bytesWorld w 5 t) := bytes_below w t
  obtain ⟨W1, hW1⟩ : ∃ W1, W1 = Lib.bytesWorld w 5 t := ⟨_, rfl⟩
  rw [← hW1] at hcv hB hW
  clear hW1
  generalize t.data.toList = bs at hB
  have hmv : IntKind.u64.wrap (IntKind.u64.wrap 18446744073709551616 - 1) = 18446744073709551615 := by
    rw [IntKind.wrap_u64, IntKind.wrap_u64]
    decide
  go_enter Tryz.func171, Tryz.ntmps171
  go_wp2
  go_loop [12, 13, 101] (fun vu vn vi => ∃ (k : Nat) (a : Int), vu = .bool false ∧ vn = .int .u64 a ∧ vi = .int .i64 k ∧ k ≤ t.size ∧ 0 ≤ a ∧ a < 18446744073709551616)
    (fun _ _ vi => t.size - (intOf vi).toNat)
  case atStart => exact ⟨0, 0, rfl, rfl, rfl, by omega, by omega, by omega⟩
  case round =>
    obtain ⟨k, a, rfl, rfl, rfl, hk, a0, a1⟩ := hrel
    by_cases hkn : k < t.size
    · have hc := hB k hkn
      generalize bs.getD k 0 = c at hc
      have hc256 : c.toNat < 256 := c.toNat_lt
      clear hB
      have hv0 := bits_lo_u8 .or (c.toNat : Int) 32
      have hv1 := bits_hi_u8 .or (c.toNat : Int) 32
      have hu0 := bits_lo_u8 .or 95 32
      have hu1 := bits_hi_u8 .or 95 32
      go_wp2_with (go_at_call 186; refine (Tryz.internal_strconv_lower _ _).mono ?_; rintro e w' ⟨rfl, rfl⟩)
      all_goals first
        | (go_ret2; exact ⟨⟨_, _, rfl, by simp⟩, hW⟩)
        | skip
      all_goals exact ⟨⟨k + 1, _, rfl, rfl, by go_num, by omega, by omega, by omega⟩, by simp [intOf]; omega⟩
    · have hkk : k = t.size := by omega
      subst hkk
      clear hB
      go_wp2
      go_ret2
      exact ⟨⟨_, _, rfl, by simp⟩, hW⟩

end Go.Proofs.YtbnmmbjajheedaaGreatDoor

/- A text's number: what the parts of the parse answer. -/
namespace Go.Proofs.YtbnmmbjajheedaaGreatDoor
open Go.RowKit

/-- The letters of ints and of floats. -/
def decB : ByteArray := ⟨#[48, 49, 50, 51, 52, 53, 54, 55, 56, 57]⟩
def hexB : ByteArray := ⟨#[48, 49, 50, 51, 52, 53, 54, 55, 56, 57, 97, 98, 99, 100, 101, 102]⟩

/-- Nothing but these letters. -/
def madeOf (s l : List UInt8) : Bool := s.all fun c => l.contains c

theorem trim_nil (l s : List UInt8) : (Lib.trimLeftS s l = []) ↔ madeOf s l = true := by
  unfold Lib.trimLeftS madeOf
  induction s with
  | nil => simp
  | cons c r ih =>
    by_cases h : l.contains c = true
    · rw [List.dropWhile_cons, if_pos h, ih, List.all_cons, h, Bool.true_and]
    · rw [List.dropWhile_cons, if_neg h, List.all_cons, Bool.eq_false_iff.2 h, Bool.false_and]
      simp

theorem trimLeft_laid (s cutset : ByteArray) (w : World) (hcs : cutset.size < 4294967281) (hascii : ∀ (j : Nat) b, cutset.data.toList[j]? = some b → b.toNat < 128) :
    Calls Tryz.prog 107 #[.string s, .string cutset] w fun e w' => e = .returned (.string ⟨(Lib.trimLeftS s.data.toList cutset.data.toList).toArray⟩) ∧ Below w.heap.size w w' :=
  Any.strings_TrimLeft_laid Tryz.lays161 (by kernel_rfl) s cutset w hcs hascii

theorem madeOf_any (s l : ByteArray) (w : World) (hcs : l.size < 4294967281) (hascii : ∀ (j : Nat) b, l.data.toList[j]? = some b → b.toNat < 128) :
    Calls Tryz.prog 155 #[.string s, .string l] w fun e w' => e = .returned (.bool (madeOf s.data.toList l.data.toList)) ∧ Below w.heap.size w w' := by
  have h := trim_nil l.data.toList s.data.toList
  by_cases hm : madeOf s.data.toList l.data.toList = true
  · have ht := h.2 hm
    have hc := trimLeft_laid s l w hcs hascii
    rw [ht] at hc
    rw [hm]
    clear h hm ht hcs hascii
    go_enter Tryz.func155, Tryz.ntmps155
    go_wp2_with fail
    refine hc.mono ?_
    rintro e w' ⟨rfl, hb⟩
    go_wp2_with fail
    go_ret
    exact ⟨by first | rfl | simp, hb⟩
  · have ht : ¬ Lib.trimLeftS s.data.toList l.data.toList = [] := fun e => hm (h.1 e)
    have hm' : madeOf s.data.toList l.data.toList = false := by simpa using hm
    have hc := trimLeft_laid s l w hcs hascii
    obtain ⟨t, hx⟩ : ∃ t, t = (⟨(Lib.trimLeftS s.data.toList l.data.toList).toArray⟩ : ByteArray) := ⟨_, rfl⟩
    have hne : t.toList.isEmpty = false := by
      rw [← decide_eq_emptyBytes]
      exact decide_eq_false (fun e => ht (by simpa using congrArg (fun b : ByteArray => b.data.toList) (hx.symm.trans e)))
    rw [← hx] at hc
    rw [hm']
    clear h hm ht hcs hascii hx hm'
    go_enter Tryz.func155, Tryz.ntmps155
    go_wp2_with fail
    refine hc.mono ?_
    rintro e w' ⟨rfl, hb⟩
    go_wp2_with fail
    go_ret
    exact ⟨by simp, hb⟩

/-- An int's form. -/
def intF (l : List UInt8) : Bool := l == [48] || (!(Lib.trimPrefix l [45]).isEmpty && !((Lib.trimPrefix l [45]).head? == some 48) && madeOf (Lib.trimPrefix l [45]) decB.data.toList)

theorem dec_small : ∀ (j : Nat) b, decB.data.toList[j]? = some b → b.toNat < 128 := ascii_of_all (by decide)
theorem hex_small : ∀ (j : Nat) b, hexB.data.toList[j]? = some b → b.toNat < 128 := ascii_of_all (by decide)

theorem intForm_zero (w : World) : Calls Tryz.prog 156 #[.string ⟨#[48]⟩] w fun e w' => e = .returned (.bool true) ∧ w' = w := by
  go_enter Tryz.func156, Tryz.ntmps156
  go_wp2_with fail
  go_ret
  exact ⟨rfl, rfl⟩

theorem intForm_other (s d : ByteArray) (hs : ¬ s = ⟨#[48]⟩) (hd : d = ⟨(Lib.trimPrefix s.data.toList [45]).toArray⟩) (w : World) :
    Calls Tryz.prog 156 #[.string s] w fun e w' => e = .returned (.bool (!d.data.toList.isEmpty && !(d.data.toList.head? == some 48) && madeOf d.data.toList decB.data.toList)) ∧ Below w.heap.size w w' := by
  have ht := Tryz.strings_TrimPrefix s ⟨#[45]⟩ w
  rw [show (⟨#[45]⟩ : ByteArray).data.toList = [45] from rfl, ← hd] at ht
  clear hd
  have hs' : (s.toList == [48]) = false := by
    rw [ByteArray.toList_eq]
    refine beq_eq_false_iff_ne.2 fun e => hs ?_
    rcases s with ⟨⟨l⟩⟩
    have e' : l = [48] := e
    rw [e']
  have hm := fun W => madeOf_any d decB W (by decide) dec_small
  rcases d with ⟨⟨l⟩⟩
  cases l with
  | nil =>
    go_enter Tryz.func156, Tryz.ntmps156
    go_wp2_with fail
    refine ht.mono ?_
    rintro e w' ⟨rfl, rfl⟩
    go_wp2_with fail
    go_ret
    exact ⟨by first | rfl | simp, Below.refl _ _⟩
  | cons c r =>
    by_cases hc : c = 48
    · subst hc
      go_enter Tryz.func156, Tryz.ntmps156
      go_wp2_with fail
      refine ht.mono ?_
      rintro e w' ⟨rfl, rfl⟩
      go_wp2_with fail
      go_ret
      exact ⟨by first | rfl | simp, Below.refl _ _⟩
    · have hcn : ¬ ((c.toNat : Int) = 48) := by
        intro e
        have h48 : (48 : UInt8).toNat = 48 := rfl
        exact hc (UInt8.toNat_inj.1 (by rw [h48]; omega))
      have hq : ((⟨⟨c :: r⟩⟩ : ByteArray)[0]'(by simp [ByteArray.size])).toNat = c.toNat := rfl
      go_enter Tryz.func156, Tryz.ntmps156
      go_wp2_with fail
      refine ht.mono ?_
      rintro e w' ⟨rfl, rfl⟩
      go_wp2_with fail
      refine (hm _).mono ?_
      rintro e w' ⟨rfl, hb⟩
      go_wp2_with fail
      go_ret
      have hn1 : ((c.toNat : Int) != 48) = true := bne_iff_ne.2 hcn
      have hn2 : (c == 48) = false := by simpa using hc
      exact ⟨by simp [hn1, hn2], hb⟩

end Go.Proofs.YtbnmmbjajheedaaGreatDoor

/- Texts and numbers, there and back: of digits alone. -/
namespace Go.Proofs.YtbnmmbjajheedaaGreatDoor

/-! ### Hexadecimal -/

theorem hex_digit (d : Nat) (h : d < 16) : isHex (hdB d) = true ∧ hexV (hdB d) = d := by
  have h : d = 0 ∨ d = 1 ∨ d = 2 ∨ d = 3 ∨ d = 4 ∨ d = 5 ∨ d = 6 ∨ d = 7 ∨ d = 8 ∨ d = 9 ∨ d = 10 ∨ d = 11 ∨ d = 12 ∨ d = 13 ∨ d = 14 ∨ d = 15 := by omega
  rcases h with h | h | h | h | h | h | h | h | h | h | h | h | h | h | h | h <;> subst h <;> decide

theorem digit_hex : ∀ c : UInt8, isHex c = true → hexV c < 16 ∧ hdB (hexV c) = c := by
  have h : ∀ n : Fin 256, isHex (UInt8.ofNat n.val) = true → hexV (UInt8.ofNat n.val) < 16 ∧ hdB (hexV (UInt8.ofNat n.val)) = UInt8.ofNat n.val := by decide +kernel
  intro c hc
  have e : UInt8.ofNat c.toNat = c := by simp
  have := h ⟨c.toNat, c.toNat_lt⟩
  simp only [e] at this
  exact this hc

theorem hexK_succ (u k : Nat) : hexK u (k + 1) = hdB (u / 16 ^ (k + 1) % 16) :: hexK u k := by
  unfold hexK
  rw [List.range_succ_eq_map, List.map_cons, List.map_map]
  simp only [Nat.sub_zero]
  congr 1
  apply List.map_congr_left
  intro j _
  simp only [Function.comp]
  rw [show k + 1 - (j + 1) = k - j by omega]

theorem hexK_all (u : Nat) : ∀ k, ∀ c ∈ hexK u k, isHex c = true := by
  intro k c hc
  unfold hexK at hc
  obtain ⟨j, _, rfl⟩ := List.mem_map.1 hc
  exact (hex_digit _ (Nat.mod_lt _ (by decide))).1

theorem hexN_hexK (u : Nat) : ∀ k acc, hexN acc (hexK u k) = acc * 16 ^ (k + 1) + u % 16 ^ (k + 1) := by
  intro k
  induction k with
  | zero =>
    intro acc
    simp only [hexK, List.range_succ, List.range_zero, List.nil_append, List.map_cons, List.map_nil, hexN]
    rw [(hex_digit _ (Nat.mod_lt _ (by decide))).2]
    simp
  | succ k ih =>
    intro acc
    rw [hexK_succ, hexN, ih, (hex_digit _ (Nat.mod_lt _ (by decide))).2]
    have e : u % 16 ^ (k + 1 + 1) = 16 ^ (k + 1) * (u / 16 ^ (k + 1) % 16) + u % 16 ^ (k + 1) := by
      rw [Nat.pow_succ 16 (k + 1), Nat.mod_mul, Nat.add_comm]
    rw [e, Nat.pow_succ 16 (k + 1), Nat.add_mul, Nat.mul_comm (16 ^ (k + 1)) (u / 16 ^ (k + 1) % 16), Nat.mul_assoc, Nat.mul_comm 16 (16 ^ (k + 1)), Nat.add_assoc]

theorem hexN_split : ∀ (l : List UInt8) (acc : Nat), (∀ c ∈ l, isHex c = true) → ∃ v, hexN acc l = acc * 16 ^ l.length + v ∧ v < 16 ^ l.length
  | [], acc, _ => ⟨0, by simp [hexN], by simp⟩
  | c :: r, acc, h => by
    obtain ⟨v, h1, h2⟩ := hexN_split r (acc * 16 + hexV c) (fun x hx => h x (List.mem_cons_of_mem _ hx))
    have hc := (digit_hex c (h c (List.mem_cons_self ..))).1
    refine ⟨hexV c * 16 ^ r.length + v, ?_, ?_⟩
    · rw [hexN, h1, List.length_cons, Nat.pow_succ, Nat.add_mul, Nat.mul_assoc, Nat.mul_comm 16 (16 ^ r.length), Nat.add_assoc]
    · rw [List.length_cons, Nat.pow_succ]
      have : hexV c * 16 ^ r.length ≤ 15 * 16 ^ r.length := Nat.mul_le_mul_right _ (by omega)
      omega

theorem hexK_hexN : ∀ (l : List UInt8) (k acc : Nat), l.length = k + 1 → (∀ c ∈ l, isHex c = true) → hexK (hexN acc l) k = l
  | [], k, acc, h, _ => by simp at h
  | c :: r, 0, acc, h, hall => by
    have hr : r = [] := by simpa using h
    subst hr
    obtain ⟨h1, h2⟩ := digit_hex c (hall c (List.mem_cons_self ..))
    simp only [hexK, hexN, List.range_succ, List.range_zero, List.nil_append, List.map_cons, List.map_nil]
    simp only [Nat.sub_zero, Nat.pow_zero, Nat.div_one]
    rw [show (acc * 16 + hexV c) % 16 = hexV c by omega, h2]
  | c :: r, k + 1, acc, h, hall => by
    have hr : r.length = k + 1 := by simpa using h
    obtain ⟨h1, h2⟩ := digit_hex c (hall c (List.mem_cons_self ..))
    have ih := hexK_hexN r k (acc * 16 + hexV c) hr (fun x hx => hall x (List.mem_cons_of_mem _ hx))
    obtain ⟨v, e1, e2⟩ := hexN_split r (acc * 16 + hexV c) (fun x hx => hall x (List.mem_cons_of_mem _ hx))
    rw [hexK_succ]
    show hdB (hexN (acc * 16 + hexV c) r / 16 ^ (k + 1) % 16) :: hexK (hexN (acc * 16 + hexV c) r) k = c :: r
    rw [ih, e1, hr]
    rw [hr] at e2
    congr 1
    rw [Nat.mul_comm, Nat.mul_add_div (Nat.pow_pos (by decide)), Nat.div_eq_of_lt e2, Nat.add_zero, show (acc * 16 + hexV c) % 16 = hexV c by omega, h2]

/-- Noughts ahead fill a number's digits up. -/
theorem hexK_pad (u k : Nat) (h : u < 16 ^ (k + 1)) : ∀ n, hexK u (k + n) = List.replicate n 48 ++ hexK u k := by
  intro n
  induction n with
  | zero => simp
  | succ n ih =>
    rw [show k + (n + 1) = k + n + 1 by omega, hexK_succ, ih, List.replicate_succ, List.cons_append]
    congr 1
    have : u / 16 ^ (k + n + 1) = 0 := Nat.div_eq_of_lt (Nat.lt_of_lt_of_le h (Nat.pow_le_pow_right (by decide) (by omega)))
    rw [this]; rfl

theorem hexL_bound (u : Nat) : u < 16 ^ (u.log2 / 4 + 1) := by
  have h := Nat.lt_log2_self (n := u)
  refine Nat.lt_of_lt_of_le h ?_
  rw [show (16 : Nat) = 2 ^ 4 from rfl, ← Nat.pow_mul]
  exact Nat.pow_le_pow_right (by decide) (by omega)

theorem fltL_eq (b : Nat) (hb : b < 18446744073709551616) : fltL b = 48 :: 102 :: hexK b 15 := by
  unfold fltL
  have hl := (hexL_length b hb).1
  have e : (hexL b).length = b.log2 / 4 + 1 := hexK_length _ _
  have hp := hexK_pad b (b.log2 / 4) (hexL_bound b) (15 - b.log2 / 4)
  rw [show b.log2 / 4 + (15 - b.log2 / 4) = 15 by omega] at hp
  rw [hp, e, show 16 - (b.log2 / 4 + 1) = 15 - b.log2 / 4 by omega]
  rfl

theorem hex_there (b : Nat) (hb : b < 18446744073709551616) : hexN 0 (hexK b 15) = b := by
  rw [hexN_hexK, Nat.zero_mul, Nat.zero_add]
  exact Nat.mod_eq_of_lt hb

theorem hex_back (l : List UInt8) (hl : l.length = 16) (hall : ∀ c ∈ l, isHex c = true) : hexN 0 l < 18446744073709551616 ∧ fltL (hexN 0 l) = 48 :: 102 :: l := by
  obtain ⟨v, e1, e2⟩ := hexN_split l 0 hall
  rw [hl] at e1 e2
  have hlt : hexN 0 l < 18446744073709551616 := by rw [e1, Nat.zero_mul, Nat.zero_add]; exact e2
  exact ⟨hlt, by rw [fltL_eq _ hlt, hexK_hexN l 15 0 hl hall]⟩

end Go.Proofs.YtbnmmbjajheedaaGreatDoor

/- Ints' texts and ints, there and back. -/
namespace Go.Proofs.YtbnmmbjajheedaaGreatDoor
open Go.Lib (NumEnd parseUintM parseUintB parseIntB decDigits itoa)

def isDig (c : UInt8) : Bool := decide (48 ≤ c.toNat ∧ c.toNat ≤ 57)
def decN (acc : Nat) : List UInt8 → Nat
  | [] => acc
  | c :: r => decN (acc * 10 + (c.toNat - 48)) r

theorem dec_contains (c : UInt8) : decB.data.toList.contains c = isDig c := by
  have h : ∀ n : Fin 256, decB.data.toList.contains (UInt8.ofNat n.val) = isDig (UInt8.ofNat n.val) := by decide +kernel
  have e : UInt8.ofNat c.toNat = c := by simp
  have := h ⟨c.toNat, c.toNat_lt⟩
  simpa only [e] using this
theorem hex_contains (c : UInt8) : hexB.data.toList.contains c = isHex c := by
  have h : ∀ n : Fin 256, hexB.data.toList.contains (UInt8.ofNat n.val) = isHex (UInt8.ofNat n.val) := by decide +kernel
  have e : UInt8.ofNat c.toNat = c := by simp
  have := h ⟨c.toNat, c.toNat_lt⟩
  simpa only [e] using this
theorem madeOf_dec (l : List UInt8) : madeOf l decB.data.toList = true ↔ ∀ c ∈ l, isDig c = true := by
  unfold madeOf; simp only [List.all_eq_true, dec_contains]
theorem madeOf_hex (l : List UInt8) : madeOf l hexB.data.toList = true ↔ ∀ c ∈ l, isHex c = true := by
  unfold madeOf; simp only [List.all_eq_true, hex_contains]

theorem dig_iff (c : UInt8) : isDig c = true ↔ 48 ≤ c.toNat ∧ c.toNat ≤ 57 := by unfold isDig; exact decide_eq_true_iff
theorem dig_back (c : UInt8) (h : isDig c = true) : UInt8.ofNat (48 + (c.toNat - 48)) = c := by
  obtain ⟨h1, h2⟩ := (dig_iff c).1 h
  rw [show 48 + (c.toNat - 48) = c.toNat by omega]; simp
theorem dig_of (d : Nat) (h : d < 10) : isDig (UInt8.ofNat (48 + d)) = true ∧ (UInt8.ofNat (48 + d)).toNat = 48 + d := by
  have h : d = 0 ∨ d = 1 ∨ d = 2 ∨ d = 3 ∨ d = 4 ∨ d = 5 ∨ d = 6 ∨ d = 7 ∨ d = 8 ∨ d = 9 := by omega
  rcases h with h | h | h | h | h | h | h | h | h | h <;> subst h <;> decide

theorem decN_append : ∀ (l : List UInt8) (acc : Nat) (c : UInt8), decN acc (l ++ [c]) = decN acc l * 10 + (c.toNat - 48)
  | [], _, _ => rfl
  | _ :: r, _, c => decN_append r _ c
theorem decN_ge : ∀ (l : List UInt8) (acc : Nat), acc ≤ decN acc l
  | [], _ => Nat.le_refl _
  | x :: r, acc => by
    have := decN_ge r (acc * 10 + (x.toNat - 48))
    show acc ≤ decN (acc * 10 + (x.toNat - 48)) r
    omega

theorem parse_digits (M : Nat) (hM : M ≤ 18446744073709551615) : ∀ (l : List UInt8) (acc : Nat), (∀ c ∈ l, isDig c = true) → decN acc l ≤ M → parseUintM M acc l = .ok (decN acc l)
  | [], acc, _, _ => rfl
  | c :: r, acc, h, hle => by
    have hc := (dig_iff c).1 (h c (List.mem_cons_self ..))
    have hge := decN_ge r (acc * 10 + (c.toNat - 48))
    have hle' : decN (acc * 10 + (c.toNat - 48)) r ≤ M := hle
    have ih := parse_digits M hM r (acc * 10 + (c.toNat - 48)) (fun x hx => h x (List.mem_cons_of_mem _ hx)) hle'
    rw [parseUintM, if_pos hc, if_neg (by omega), if_neg (by omega), ih]
    rfl
theorem parse_ok (M : Nat) : ∀ (l : List UInt8) (acc u : Nat), parseUintM M acc l = .ok u → (∀ c ∈ l, isDig c = true) ∧ u = decN acc l
  | [], acc, u, h => by
    simp only [parseUintM, NumEnd.ok.injEq] at h
    exact ⟨by simp, h.symm⟩
  | c :: r, acc, u, h => by
    rw [parseUintM] at h
    split at h
    · rename_i hc
      split at h
      · cases h
      · split at h
        · cases h
        · obtain ⟨h1, h2⟩ := parse_ok M r _ u h
          refine ⟨fun x hx => ?_, h2⟩
          rcases List.mem_cons.1 hx with rfl | hx
          · exact (dig_iff _).2 hc
          · exact h1 x hx
    · cases h
/-- A number, or one that is out of range: a text of digits is no other. -/
def Plain {α : Type} (e : NumEnd α) : Prop :=
  match e with
  | .ok _ => True
  | .range => True
  | _ => False
theorem parse_plain (M : Nat) : ∀ (l : List UInt8) (acc : Nat), (∀ c ∈ l, isDig c = true) → Plain (parseUintM M acc l)
  | [], acc, _ => by simp [parseUintM, Plain]
  | c :: r, acc, h => by
    have hc := (dig_iff c).1 (h c (List.mem_cons_self ..))
    have ih := parse_plain M r (acc * 10 + (c.toNat - 48)) (fun x hx => h x (List.mem_cons_of_mem _ hx))
    rw [parseUintM, if_pos hc]
    split
    · simp [Plain]
    · split
      · simp [Plain]
      · exact ih

theorem digits_facts (u : Nat) : (∀ c ∈ decDigits u, isDig c = true) ∧ decN 0 (decDigits u) = u ∧ decDigits u ≠ [] ∧ (u ≠ 0 → (decDigits u).head? ≠ some 48) := by
  induction u using Nat.strongRecOn with
  | _ u ih =>
    by_cases h : u < 10
    · rw [decDigits, dif_pos h]
      obtain ⟨d1, d2⟩ := dig_of u h
      refine ⟨fun c hc => ?_, ?_, by simp, fun hu => ?_⟩
      · rw [List.mem_singleton.1 hc]; exact d1
      · show 0 * 10 + ((UInt8.ofNat (48 + u)).toNat - 48) = u
        rw [d2]; omega
      · simp only [List.head?_cons, ne_eq, Option.some.injEq]
        intro e
        have := congrArg UInt8.toNat e
        rw [d2] at this
        have h48 : (48 : UInt8).toNat = 48 := rfl
        omega
    · rw [decDigits, dif_neg h]
      obtain ⟨i1, i2, i3, i4⟩ := ih (u / 10) (by omega)
      obtain ⟨d1, d2⟩ := dig_of (u % 10) (by omega)
      refine ⟨fun c hc => ?_, ?_, by simp, fun hu => ?_⟩
      · rcases List.mem_append.1 hc with hc | hc
        · exact i1 c hc
        · rw [List.mem_singleton.1 hc]; exact d1
      · rw [decN_append, i2, d2]; omega
      · have hn : u / 10 ≠ 0 := by omega
        rw [List.head?_append]
        cases hd : (decDigits (u / 10)).head? with
        | none => exact absurd (List.head?_eq_none_iff.1 hd) i3
        | some x => have := i4 hn; rw [hd] at this; simpa using this

theorem digits_back : ∀ (n : Nat) (l : List UInt8), l.length = n → l ≠ [] → (∀ c ∈ l, isDig c = true) → l.head? ≠ some 48 → decDigits (decN 0 l) = l ∧ 1 ≤ decN 0 l := by
  intro n
  induction n using Nat.strongRecOn with
  | _ n ih =>
    intro l hl hne hall hh
    rcases List.eq_nil_or_concat l with h0 | ⟨i, c, h0⟩
    · exact absurd h0 hne
    · rw [List.concat_eq_append] at h0
      subst h0
      have hc := hall c (by simp)
      have hc' := (dig_iff c).1 hc
      by_cases hi : i = []
      · subst hi
        have hn : c.toNat ≠ 48 := by
          intro e
          apply hh
          simp only [List.nil_append, List.head?_cons, Option.some.injEq]
          exact UInt8.toNat_inj.1 e
        have e1 : decN 0 ([] ++ [c]) = c.toNat - 48 := by show 0 * 10 + (c.toNat - 48) = c.toNat - 48; omega
        rw [e1]
        refine ⟨?_, by omega⟩
        rw [decDigits, dif_pos (by omega), dig_back c hc]
        rfl
      · have hlen : i.length < n := by rw [← hl]; simp
        have hh' : i.head? ≠ some 48 := by
          intro e
          apply hh
          rw [List.head?_append, e]; rfl
        obtain ⟨h1, h2⟩ := ih i.length hlen i rfl hi (fun x hx => hall x (by simp [hx])) hh'
        rw [decN_append]
        refine ⟨?_, by omega⟩
        rw [decDigits, dif_neg (by omega), show (decN 0 i * 10 + (c.toNat - 48)) / 10 = decN 0 i by omega, show (decN 0 i * 10 + (c.toNat - 48)) % 10 = c.toNat - 48 by omega, h1, dig_back c hc]

end Go.Proofs.YtbnmmbjajheedaaGreatDoor

/- Ints' texts: there and back, as a whole; and what the library's parse of digits answers of any text. -/
namespace Go.Proofs.YtbnmmbjajheedaaGreatDoor
open Go.RowKit
open Go.Lib (NumEnd parseUintM parseUintB parseIntB decDigits itoa)

theorem trim_minus (r : List UInt8) : Lib.trimPrefix (45 :: r) [45] = r := by simp [Lib.trimPrefix, Lib.hasPrefix]
theorem trim_plain (c : UInt8) (r : List UInt8) (h : c ≠ 45) : Lib.trimPrefix (c :: r) [45] = c :: r := by
  simp [Lib.trimPrefix, Lib.hasPrefix, Ne.symm h]

theorem digits_zero : decDigits 0 = [48] := by rw [decDigits, dif_pos (by decide)]; rfl
theorem itoa_zero : itoa 0 = [48] := by unfold itoa; rw [if_neg (by decide)]; exact digits_zero

theorem dig_not (c : UInt8) (h : isDig c = true) : c.toNat ≠ 43 ∧ c.toNat ≠ 45 ∧ c ≠ 45 := by
  have := (dig_iff c).1 h
  refine ⟨by omega, by omega, fun e => ?_⟩
  have e1 : (45 : UInt8).toNat = 45 := rfl
  rw [e, e1] at this
  omega

/-- Digits alone, the first of which is no nought. -/
def Mag (d : List UInt8) : Prop := d ≠ [] ∧ d.head? ≠ some 48 ∧ ∀ c ∈ d, isDig c = true

theorem intF_mag (d : List UInt8) : (!d.isEmpty && !(d.head? == some 48) && madeOf d decB.data.toList) = true ↔ Mag d := by
  unfold Mag
  rw [Bool.and_eq_true, Bool.and_eq_true, madeOf_dec]
  simp [and_assoc]

theorem intF_cases (l : List UInt8) : intF l = true ↔ l = [48] ∨ (∃ d, l = 45 :: d ∧ Mag d) ∨ Mag l := by
  unfold intF
  rw [Bool.or_eq_true, intF_mag, beq_iff_eq]
  constructor
  · rintro (h | h)
    · exact Or.inl h
    · cases l with
      | nil => exact absurd rfl h.1
      | cons c r =>
        by_cases e : c = 45
        · subst e
          rw [trim_minus] at h
          exact Or.inr (Or.inl ⟨r, rfl, h⟩)
        · rw [trim_plain c r e] at h
          exact Or.inr (Or.inr h)
  · rintro (h | ⟨d, rfl, h⟩ | h)
    · exact Or.inl h
    · rw [trim_minus]; exact Or.inr h
    · cases l with
      | nil => exact absurd rfl h.1
      | cons c r => rw [trim_plain c r (dig_not c (h.2.2 c (List.mem_cons_self ..))).2.2]; exact Or.inr h

theorem pu_mag (d : List UInt8) (h : Mag d) : parseUintB 64 d = parseUintM 18446744073709551615 0 d := by
  unfold parseUintB
  rw [if_neg h.1]

theorem pi_minus (d : List UInt8) (h : Mag d) : parseIntB 64 (45 :: d) = Lib.signedC 9223372036854775808 (parseUintM 18446744073709551615 0 d) := by
  rw [Lib.parseIntB_minus, pu_mag d h]
theorem pi_plain (d : List UInt8) (h : Mag d) : parseIntB 64 d = Lib.signlessC 9223372036854775808 (parseUintM 18446744073709551615 0 d) := by
  have hp := pu_mag d h
  obtain ⟨h1, _, h3⟩ := h
  cases d with
  | nil => exact absurd rfl h1
  | cons c r =>
    obtain ⟨n1, n2, _⟩ := dig_not c (h3 c (List.mem_cons_self ..))
    rw [Lib.parseIntB_plain 64 c r n1 n2, hp]

theorem pi_zero : parseIntB 64 [48] = .ok 0 := by decide

/-- What is parsed is printed as it was. -/
theorem int_back (l : List UInt8) (v : Int) (hf : intF l = true) (hv : parseIntB 64 l = .ok v) : itoa v = l := by
  rcases (intF_cases l).1 hf with rfl | ⟨d, rfl, hd⟩ | hd
  · rw [pi_zero] at hv
    obtain rfl : v = 0 := by simpa using hv.symm
    exact itoa_zero
  · rw [pi_minus d hd] at hv
    cases hp : parseUintM 18446744073709551615 0 d with
    | range => rw [hp] at hv; cases hv
    | ok u =>
      rw [hp] at hv
      simp only [Lib.signedC] at hv
      split at hv
      · cases hv
      · obtain ⟨_, hu⟩ := parse_ok _ d 0 u hp
        obtain ⟨b1, b2⟩ := digits_back d.length d rfl hd.1 hd.2.2 hd.2.1
        rw [← hu] at b1 b2
        obtain rfl : v = -(u : Int) := by simpa using hv.symm
        unfold itoa
        rw [if_pos (by omega), show (-(u : Int)).natAbs = u by omega, b1]
    | _ => rw [hp] at hv; cases hv
  · rw [pi_plain l hd] at hv
    cases hp : parseUintM 18446744073709551615 0 l with
    | range => rw [hp] at hv; cases hv
    | ok u =>
      rw [hp] at hv
      simp only [Lib.signlessC] at hv
      split at hv
      · cases hv
      · obtain ⟨_, hu⟩ := parse_ok _ l 0 u hp
        obtain ⟨b1, b2⟩ := digits_back l.length l rfl hd.1 hd.2.2 hd.2.1
        rw [← hu] at b1 b2
        obtain rfl : v = (u : Int) := by simpa using hv.symm
        unfold itoa
        rw [if_neg (by omega), show (u : Int).toNat = u by omega, b1]
    | _ => rw [hp] at hv; cases hv

theorem mag_digits (m : Nat) (h : m ≠ 0) : Mag (decDigits m) := by
  obtain ⟨h1, _, h3, h4⟩ := digits_facts m
  exact ⟨h3, h4 h, h1⟩

theorem parse_mag (m : Nat) (h : m ≤ 18446744073709551615) : parseUintM 18446744073709551615 0 (decDigits m) = .ok m := by
  obtain ⟨h1, h2, _, _⟩ := digits_facts m
  have := parse_digits 18446744073709551615 (Nat.le_refl _) (decDigits m) 0 h1 (by rw [h2]; exact h)
  rw [h2] at this
  exact this

/-- What is printed is parsed as it was. -/
theorem int_there (v : Int) (h1 : -9223372036854775808 ≤ v) (h2 : v ≤ 9223372036854775807) : intF (itoa v) = true ∧ parseIntB 64 (itoa v) = .ok v ∧ Lib.hasPrefix (itoa v) [48, 102] = false := by
  have pre : ∀ l : List UInt8, Mag l → Lib.hasPrefix l [48, 102] = false := by
    intro l hl
    cases l with
    | nil => exact absurd rfl hl.1
    | cons c r =>
      have hc : c ≠ 48 := fun e => hl.2.1 (by rw [e]; rfl)
      have h48 : (48 == c) = false := by simpa using Ne.symm hc
      show ((48 == c) && List.isPrefixOf [102] r) = false
      rw [h48]; rfl
  by_cases hn : v < 0
  · have e : itoa v = 45 :: decDigits v.natAbs := by unfold itoa; rw [if_pos hn]
    have hm := mag_digits v.natAbs (by omega)
    rw [e]
    refine ⟨(intF_cases _).2 (Or.inr (Or.inl ⟨_, rfl, hm⟩)), ?_, rfl⟩
    rw [pi_minus _ hm, parse_mag _ (by omega)]
    simp only [Lib.signedC]
    rw [if_neg (by omega)]
    congr 1
    omega
  · have e : itoa v = decDigits v.toNat := by unfold itoa; rw [if_neg hn]
    rw [e]
    by_cases h0 : v.toNat = 0
    · rw [h0, digits_zero]
      refine ⟨by decide, ?_, by decide⟩
      rw [pi_zero]
      congr 1
      omega
    · have hm := mag_digits v.toNat h0
      refine ⟨(intF_cases _).2 (Or.inr (Or.inr hm)), ?_, pre _ hm⟩
      rw [pi_plain _ hm, parse_mag _ (by omega)]
      simp only [Lib.signlessC]
      rw [if_neg (by omega)]
      congr 1
      omega

/-- A text of an int's form is wrong in its size alone. -/
theorem int_plain (l : List UInt8) (hf : intF l = true) : Plain (parseIntB 64 l) := by
  rcases (intF_cases l).1 hf with rfl | ⟨d, rfl, hd⟩ | hd
  · rw [pi_zero]; simp [Plain]
  · rw [pi_minus d hd]
    have h := parse_plain 18446744073709551615 d 0 hd.2.2
    cases hp : parseUintM 18446744073709551615 0 d with
    | range => simp [Lib.signedC, Plain]
    | ok u => simp only [Lib.signedC]; split <;> simp [Plain]
    | _ => rw [hp] at h; exact h.elim
  · rw [pi_plain l hd]
    have h := parse_plain 18446744073709551615 l 0 hd.2.2
    cases hp : parseUintM 18446744073709551615 0 l with
    | range => simp [Lib.signlessC, Plain]
    | ok u => simp only [Lib.signlessC]; split <;> simp [Plain]
    | _ => rw [hp] at h; exact h.elim

end Go.Proofs.YtbnmmbjajheedaaGreatDoor

/- What the parse answers, of any text that is no longer than the statement asks. -/
namespace Go.Proofs.YtbnmmbjajheedaaGreatDoor
open Go.RowKit
open Go.Lib (NumEnd parseIntB itoa)

/-- The two errors' variables hold something that can be read. -/
def EE (w : World) : Prop := (∃ ev, w.cell? ⟨23, 0, none⟩ = some ev ∧ (ev = .nilIface ∨ ∃ te pe, ev = .iface te pe)) ∧ ∃ ev, w.cell? ⟨24, 0, none⟩ = some ev ∧ (ev = .nilIface ∨ ∃ te pe, ev = .iface te pe)
theorem EE.below {w w' : World} (h : EE w) (hb : Below w.heap.size w w') : EE w' := by
  obtain ⟨⟨e1, h1, h2⟩, e3, h3, h4⟩ := h
  exact ⟨⟨e1, cell_later hb h1, h2⟩, e3, cell_later hb h3, h4⟩

theorem puint_good (t : ByteArray) (hl : t.size = 16) (hall : ∀ c ∈ t.data.toList, isHex c = true) (w : World) :
    Calls Tryz.prog 154 #[.string t, .int .i64 16, .int .i64 64] w fun e w' => e = .returned (.tuple #[.int .u64 (hexN 0 t.data.toList : Nat), .nilIface]) ∧ Below w.heap.size w w' := by
  have h := uint16_good t (by omega) (by omega) hall w
  generalize hexN 0 t.data.toList = n at h ⊢
  go_enter Tryz.func154, Tryz.ntmps154
  go_wp2_with fail
  refine h.mono ?_
  rintro e w' ⟨rfl, hw⟩
  have hb : Below w.heap.size w w' := hw ▸ bytes_below w t
  clear hw h
  go_wp2_with fail
  go_ret2
  exact ⟨rfl, hb⟩

theorem puint_some (t : ByteArray) (hmax : t.size ≤ 140737488355328) (w : World) (hE : EE w) :
    Calls Tryz.prog 154 #[.string t, .int .i64 16, .int .i64 64] w fun e w' => (∃ x v, e = .returned (.tuple #[.int .u64 x, v]) ∧ (v = .nilIface ∨ ∃ N, v = .iface 203 (.pointer (some ⟨N, 0, none⟩)))) ∧ Below w.heap.size w w' := by
  have H : Calls Tryz.prog 171 #[.string t, .int .i64 16, .int .i64 64] w fun e w' => (∃ x v, e = .returned (.tuple #[.int .u64 x, v]) ∧ (v = .nilIface ∨ v = .iface 201 (.int .i64 1) ∨ v = .iface 201 (.int .i64 2))) ∧ Below w.heap.size w w' := by
    by_cases h0 : t.size = 0
    · have e : t = ⟨#[]⟩ := by
        rcases t with ⟨⟨l⟩⟩
        have : l = [] := List.length_eq_zero_iff.1 h0
        rw [this]
      rw [e]
      refine (Tryz.internal_strconv_ParseUint_empty 16 64 w).mono fun e w' ⟨h1, h2⟩ => ⟨⟨_, _, h1, by simp⟩, h2 ▸ Below.refl _ _⟩
    · exact uint16_some t h0 hmax w
  go_enter Tryz.func154, Tryz.ntmps154
  go_wp2_with fail
  refine H.mono ?_
  rintro e w' ⟨⟨x, v, rfl, hv⟩, hb⟩
  have hE' := hE.below hb
  obtain ⟨⟨e2, c2, k2⟩, e3, c3, k3⟩ := hE'
  rcases hv with rfl | rfl | rfl
  · go_wp2_with fail
    go_ret2
    exact ⟨⟨_, _, rfl, Or.inl rfl⟩, hb⟩
  · go_wp2_with fail
    refine (Tryz.strconv_toError_range _ t 16 64 e3 w' (by omega) c3 k3).mono ?_
    rintro e w2 ⟨N, rfl, _, _, hb2⟩
    go_wp2_with fail
    go_ret2
    exact ⟨⟨_, _, rfl, Or.inr ⟨N, rfl⟩⟩, stepB hb hb2⟩
  · go_wp2_with fail
    refine (Tryz.strconv_toError_syntax _ t 16 64 e2 w' (by omega) c2 k2).mono ?_
    rintro e w2 ⟨N, rfl, _, _, hb2⟩
    go_wp2_with fail
    go_ret2
    exact ⟨⟨_, _, rfl, Or.inr ⟨N, rfl⟩⟩, stepB hb hb2⟩

theorem intForm_any (s : ByteArray) (w : World) :
    Calls Tryz.prog 156 #[.string s] w fun e w' => e = .returned (.bool (intF s.data.toList)) ∧ Below w.heap.size w w' := by
  by_cases hs : s = ⟨#[48]⟩
  · subst hs
    exact (intForm_zero w).mono fun e w' ⟨h1, h2⟩ => ⟨h1, h2 ▸ Below.refl _ _⟩
  · refine (intForm_other s _ hs rfl w).mono fun e w' ⟨h1, h2⟩ => ⟨?_, h2⟩
    rw [h1]
    have : (s.data.toList == [48]) = false := by
      refine beq_eq_false_iff_ne.2 fun e => hs ?_
      rcases s with ⟨⟨l⟩⟩
      have e' : l = [48] := e
      rw [e']
    unfold intF
    rw [this]
    rfl

end Go.Proofs.YtbnmmbjajheedaaGreatDoor
