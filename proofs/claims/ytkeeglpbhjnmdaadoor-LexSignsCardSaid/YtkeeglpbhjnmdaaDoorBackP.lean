/- A text's number: what the parts of the parse answer. -/
import Derived.Test.YtkeeglpbhjnmdaaDoorBackU
import Derived.Shelf.Strings.SlTrimAscii
import Derived.Laws.StructEq
namespace Go.Proofs.YtkeeglpbhjnmdaaDoor
open Go.RowKit

/-- The letters of ints and of floats. -/
def decB : ByteArray := ⟨#[48, 49, 50, 51, 52, 53, 54, 55, 56, 57]⟩
def hexB : ByteArray := ⟨#[48, 49, 50, 51, 52, 53, 54, 55, 56, 57, 97, 98, 99, 100, 101, 102]⟩

/-- Nothing but these letters. -/
def madeOf (s l : List UInt8) : Bool := s.all fun c => l.contains c

theorem trim_nil (l s : List UInt8) : (Lib.trimLeftS s l = []) ↔ madeOf s l = true := by
  unfold Lib.trimLeftS madeOf
  induction s with
  | nil => simp
  | cons c r ih =>
    by_cases h : l.contains c = true
    · rw [List.dropWhile_cons, if_pos h, ih, List.all_cons, h, Bool.true_and]
    · rw [List.dropWhile_cons, if_neg h, List.all_cons, Bool.eq_false_iff.2 h, Bool.false_and]
      simp

theorem trimLeft_laid (s cutset : ByteArray) (w : World) (hcs : cutset.size < 4294967281) (hascii : ∀ (j : Nat) b, cutset.data.toList[j]? = some b → b.toNat < 128) :
    Calls Tryd.prog 41 #[.string s, .string cutset] w fun e w' => e = .returned (.string ⟨(Lib.trimLeftS s.data.toList cutset.data.toList).toArray⟩) ∧ Below w.heap.size w w' :=
  Any.strings_TrimLeft_laid Tryd.lays161 (by kernel_rfl) s cutset w hcs hascii

theorem madeOf_any (s l : ByteArray) (w : World) (hcs : l.size < 4294967281) (hascii : ∀ (j : Nat) b, l.data.toList[j]? = some b → b.toNat < 128) :
    Calls Tryd.prog 57 #[.string s, .string l] w fun e w' => e = .returned (.bool (madeOf s.data.toList l.data.toList)) ∧ Below w.heap.size w w' := by
  have h := trim_nil l.data.toList s.data.toList
  by_cases hm : madeOf s.data.toList l.data.toList = true
  · have ht := h.2 hm
    have hc := trimLeft_laid s l w hcs hascii
    rw [ht] at hc
    rw [hm]
    clear h hm ht hcs hascii
    go_enter Tryd.func57, Tryd.ntmps57
    go_wp2_with fail
    refine hc.mono ?_
    rintro e w' ⟨rfl, hb⟩
    go_wp2_with fail
    go_ret
    exact ⟨by first | rfl | simp, hb⟩
  · have ht : ¬ Lib.trimLeftS s.data.toList l.data.toList = [] := fun e => hm (h.1 e)
    have hm' : madeOf s.data.toList l.data.toList = false := by simpa using hm
    have hc := trimLeft_laid s l w hcs hascii
    obtain ⟨t, hx⟩ : ∃ t, t = (⟨(Lib.trimLeftS s.data.toList l.data.toList).toArray⟩ : ByteArray) := ⟨_, rfl⟩
    have hne : t.toList.isEmpty = false := by
      rw [← decide_eq_emptyBytes]
      exact decide_eq_false (fun e => ht (by simpa using congrArg (fun b : ByteArray => b.data.toList) (hx.symm.trans e)))
    rw [← hx] at hc
    rw [hm']
    clear h hm ht hcs hascii hx hm'
    go_enter Tryd.func57, Tryd.ntmps57
    go_wp2_with fail
    refine hc.mono ?_
    rintro e w' ⟨rfl, hb⟩
    go_wp2_with fail
    go_ret
    exact ⟨by simp, hb⟩

/-- An int's form. -/
def intF (l : List UInt8) : Bool := l == [48] || (!(Lib.trimPrefix l [45]).isEmpty && !((Lib.trimPrefix l [45]).head? == some 48) && madeOf (Lib.trimPrefix l [45]) decB.data.toList)

theorem dec_small : ∀ (j : Nat) b, decB.data.toList[j]? = some b → b.toNat < 128 := ascii_of_all (by decide)
theorem hex_small : ∀ (j : Nat) b, hexB.data.toList[j]? = some b → b.toNat < 128 := ascii_of_all (by decide)

theorem intForm_zero (w : World) : Calls Tryd.prog 58 #[.string ⟨#[48]⟩] w fun e w' => e = .returned (.bool true) ∧ w' = w := by
  go_enter Tryd.func58, Tryd.ntmps58
  go_wp2_with fail
  go_ret
  exact ⟨rfl, rfl⟩

theorem intForm_other (s d : ByteArray) (hs : ¬ s = ⟨#[48]⟩) (hd : d = ⟨(Lib.trimPrefix s.data.toList [45]).toArray⟩) (w : World) :
    Calls Tryd.prog 58 #[.string s] w fun e w' => e = .returned (.bool (!d.data.toList.isEmpty && !(d.data.toList.head? == some 48) && madeOf d.data.toList decB.data.toList)) ∧ Below w.heap.size w w' := by
  have ht := Tryd.strings_TrimPrefix s ⟨#[45]⟩ w
  rw [show (⟨#[45]⟩ : ByteArray).data.toList = [45] from rfl, ← hd] at ht
  clear hd
  have hs' : (s.toList == [48]) = false := by
    rw [ByteArray.toList_eq]
    refine beq_eq_false_iff_ne.2 fun e => hs ?_
    rcases s with ⟨⟨l⟩⟩
    have e' : l = [48] := e
    rw [e']
  have hm := fun W => madeOf_any d decB W (by decide) dec_small
  rcases d with ⟨⟨l⟩⟩
  cases l with
  | nil =>
    go_enter Tryd.func58, Tryd.ntmps58
    go_wp2_with fail
    refine ht.mono ?_
    rintro e w' ⟨rfl, rfl⟩
    go_wp2_with fail
    go_ret
    exact ⟨by first | rfl | simp, Below.refl _ _⟩
  | cons c r =>
    by_cases hc : c = 48
    · subst hc
      go_enter Tryd.func58, Tryd.ntmps58
      go_wp2_with fail
      refine ht.mono ?_
      rintro e w' ⟨rfl, rfl⟩
      go_wp2_with fail
      go_ret
      exact ⟨by first | rfl | simp, Below.refl _ _⟩
    · have hcn : ¬ ((c.toNat : Int) = 48) := by
        intro e
        have h48 : (48 : UInt8).toNat = 48 := rfl
        exact hc (UInt8.toNat_inj.1 (by rw [h48]; omega))
      have hq : ((⟨⟨c :: r⟩⟩ : ByteArray)[0]'(by simp [ByteArray.size])).toNat = c.toNat := rfl
      go_enter Tryd.func58, Tryd.ntmps58
      go_wp2_with fail
      refine ht.mono ?_
      rintro e w' ⟨rfl, rfl⟩
      go_wp2_with fail
      refine (hm _).mono ?_
      rintro e w' ⟨rfl, hb⟩
      go_wp2_with fail
      go_ret
      have hn1 : ((c.toNat : Int) != 48) = true := bne_iff_ne.2 hcn
      have hn2 : (c == 48) = false := by simpa using hc
      exact ⟨by simp [hn1, hn2], hb⟩

end Go.Proofs.YtkeeglpbhjnmdaaDoor
