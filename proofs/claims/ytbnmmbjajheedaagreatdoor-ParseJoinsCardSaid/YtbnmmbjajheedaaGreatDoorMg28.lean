import Derived.Shelf.Strings.Builder1
import Derived.Shelf.Strings.Builder2
import Derived.Shelf.Strings.Trim
import Derived.Shelf.Small.Utf8
import Derived.Shelf.Small.Strs
import Derived.Shelf.Small.Wraps
import Derived.Shelf.Strconv.Itoa0
import Derived.Shelf.Strconv.Itoa1
import Derived.Shelf.LaysM
import Derived.Shelf.Strconv.Itoa2
import Derived.Shelf.Strconv.Itoa3
import Derived.Shelf.Strconv.Itoa4
import Derived.Shelf.Strconv.ParseIntEmpty
import Derived.Shelf.Strconv.Clone
import Derived.Shelf.Strconv.SyntaxError
import Derived.Shelf.LaysC
import Derived.Shelf.Strconv.ToError
import Derived.Shelf.Strconv.Lower
import Derived.Shelf.Strconv.ParseUint10
import Derived.Shelf.Strconv.ParseUint10Empty
import Derived.Shelf.Strconv.ParseUint10Any
import Derived.Shelf.Strconv.ParseInt10
import Derived.Shelf.Strconv.RangeError
import Derived.Shelf.Strconv.ToErrorRange
import Derived.Shelf.Strconv.ParseUintEmpty
import Derived.Shelf.Strconv.ParseUint10b64
import Derived.Shelf.Strconv.ParseUint10b32
import Derived.Shelf.Strconv.ParseUint10b16
import Derived.Shelf.Strconv.ParseUint10b8
import Derived.Shelf.Strconv.ParseUint10At
import Derived.Shelf.Strconv.ParseInt10At64
import Derived.Shelf.Strconv.ParseInt10At32
import Derived.Shelf.Strconv.ParseInt10At16
import Derived.Shelf.Strconv.ParseInt10At8
import Derived.Shelf.Strconv.ParseInt10All
import Derived.Shelf.Strconv.ParseIntPublic10
import Derived.Shelf.Strings.Search1
import Derived.Shelf.Strings.Prefix
import Derived.Shelf.Strings.Runes
import Derived.Shelf.Strings.AsciiSet
import Derived.Shelf.Bits.Mul64
import Derived.Shelf.Unicode.DecodeSlow
import Derived.WalkKit
import Derived.WalkSpells
import Derived.WalkLawsBesides
import Derived.Deep.RegionHeld3
import Derived.Deep.DeepCutAuto
import Derived.KernelRfl
import Derived.Lib.Hide
import Derived.Lib.ItoaWalk
import Derived.Lib.LaidTab
import Derived.Stop.LaidErr
import Derived.Laws.Strings3
import Derived.Maps.OwnSet
import Derived.Maps.OwnOps
import Derived.Maps.Views
import Derived.Deep.AppendLies
import Derived.Laws.EntriesVeiled
import Derived.OpenShut
import Derived.ProofKit
import Derived.RegionTactic
import Derived.BigRegion
import Derived.Lib.ConvBytes
import Derived.Lib.AtoiAllMem
import Derived.Laws.Closers25
import Derived.Laws.Closers25b
import Derived.Shelf.Strings.SlTrimAscii
import Derived.Laws.StructEq
import Derived.Lib.ParseIntBCases
import Derived.Lib.ParseIntBTie
import Derived.Deep.MidRow
import Derived.WalkMore
import Derived.Deep.QuietTactic
import Derived.BigQuiet
import Derived.Shelf.Abstract
import Derived.RegionDies
import Derived.Deep.RegionHeldLaw
import Derived.Lib.QuietBelow
import Derived.Deep.RegionHeld
import Derived.Lib.ItoaLen
import Derived.Defers
import Derived.Recover
import Derived.LaidLaws
import Derived.DataReads
import Derived.LaidMore
import Derived.Test.YtbnmmbjajheedaaGreatDoorMg22
import Derived.Test.YtbnmmbjajheedaaGreatDoorMg23
namespace Go.Proofs.YtbnmmbjajheedaaGreatDoor
set_option maxHeartbeats 64000000
set_option maxRecDepth 100000
open Go.RowKit Go.Lib
theorem lexA_shift (n : Int) : ∀ (f : Nat) (l : List UInt8) (line : Int) (acc : List (Tk × Int)), lexA f l (line + n) (acc.map fun x => (x.1, x.2 + n)) = (lexA f l line acc).shift n
 | 0, l, line, acc => by unfold lexA; rfl
 | f + 1, [], line, acc => by unfold lexA; rfl
 | f + 1, c :: r, line, acc => by
  unfold lexA
  split
  ·rw [show line + n + 1 = line + 1 + n by omega]
   exact lexA_shift n f _ _ _
  ·split
   ·exact lexA_shift n f _ _ _
   ·split
    ·split
     ·rfl
     ·exact lexA_shift n f _ _ _
    ·split
     ·rw [List.length_map]
      split
      ·rfl
      ·rw [show List.map (fun x => (x.1, x.2 + n)) acc ++ [((readL (c :: r)).1, line + n)] = (acc ++ [((readL (c :: r)).1, line)]).map (fun x => (x.1, x.2 + n)) by simp]
       exact lexA_shift n f _ _ _
     ·rfl
end Go.Proofs.YtbnmmbjajheedaaGreatDoor
namespace Go.Proofs.YtbnmmbjajheedaaGreatDoor
set_option maxHeartbeats 64000000
set_option maxRecDepth 100000
open Go.RowKit Go.Lib
theorem lexA_bd (B : Int) : ∀ (f : Nat) (l : List UInt8) (line : Int) (acc : List (Tk × Int)), 0 ≤ line → line + l.length ≤ B → (∀ x, x ∈ acc → 0 ≤ x.2 ∧ x.2 ≤ B) → Bd B (lexA f l line acc)
 | 0, l, line, acc, _, _, ha => by unfold lexA; exact ha
 | f + 1, [], line, acc, _, _, ha => by unfold lexA; exact ha
 | f + 1, c :: r, line, acc, h0, h1, ha => by
  simp only [List.length_cons] at h1
  unfold lexA
  split
  ·exact lexA_bd B f _ _ _ (by omega) (by omega) ha
  ·split
   ·exact lexA_bd B f _ _ _ h0 (by omega) ha
   ·split
    ·split
     ·exact ha
     ·exact lexA_bd B f _ _ _ h0 (by rw [List.length_drop, List.length_cons]; omega) ha
    ·split
     ·split
      ·exact ⟨h0, by omega⟩
      ·refine lexA_bd B f _ _ _ h0 (by rw [List.length_drop, List.length_cons]; omega) fun x hx => ?_
       rcases List.mem_append.1 hx with hx | hx
       ·exact ha x hx
       ·rw [List.mem_singleton] at hx
        subst hx
        exact ⟨h0, by omega⟩
     ·exact ⟨h0, by omega⟩
theorem lexL_bd (l : List UInt8) : Bd (1 + l.length) (lexL l) := lexA_bd _ _ _ _ _ (by omega) (by omega) (fun x hx => by cases hx)
end Go.Proofs.YtbnmmbjajheedaaGreatDoor
namespace Go.Proofs.YtbnmmbjajheedaaGreatDoor
set_option maxHeartbeats 64000000
set_option maxRecDepth 100000
open Go.RowKit Go.Lib
theorem Rdr.o10 {W : World} {b me ma : Nat} {last : Int} {rest : List Tok} {d p i0 i1 i2 i3 i4 i5 i6 i7 i8 i9 : Nat} {v0 v1 v2 v3 v4 v5 v6 v7 v8 v9 : Value} (h : Rdr W b me ma last rest d) (hp : b < p) : Rdr ((((((((((W.setCell ⟨p, i0, none⟩ v0).setCell ⟨p, i1, none⟩ v1).setCell ⟨p, i2, none⟩ v2).setCell ⟨p, i3, none⟩ v3).setCell ⟨p, i4, none⟩ v4).setCell ⟨p, i5, none⟩ v5).setCell ⟨p, i6, none⟩ v6).setCell ⟨p, i7, none⟩ v7).setCell ⟨p, i8, none⟩ v8).setCell ⟨p, i9, none⟩ v9) b me ma last rest d := (((((((((h.over hp _).over hp _).over hp _).over hp _).over hp _).over hp _).over hp _).over hp _).over hp _).over hp _
end Go.Proofs.YtbnmmbjajheedaaGreatDoor
namespace Go.Proofs.YtbnmmbjajheedaaGreatDoor
set_option maxHeartbeats 64000000
set_option maxRecDepth 100000
open Go.RowKit Go.Lib
theorem mod_acc (ll : Int) : ∀ (n : Nat) (cs : List (Nm × Int)) (bs : List Bnd) (s : St), moduleD ll n cs bs s = ((cs ++ (moduleD ll n [] [] s).1.1, bs ++ (moduleD ll n [] [] s).1.2), (moduleD ll n [] [] s).2)
 | 0, cs, bs, s => by simp [moduleD]
 | n + 1, cs, bs, s => by
  by_cases g : s.e = 0 ∧ s.r ≠ []
  ·rw [mod_step ll n cs bs g.1 g.2, mod_step ll n [] [] g.1 g.2]
   split
   ·rw [mod_acc ll n (cs ++ _), mod_acc ll n ([] ++ _)]
    simp
   ·rw [mod_acc ll n cs (bs ++ [_]), mod_acc ll n [] ([] ++ [_])]
    simp
  ·have e : ∀ cs bs, moduleD ll (n + 1) cs bs s = ((cs, bs), s) := fun cs bs => by unfold moduleD; exact if_neg g
   rw [e, e]
   simp
theorem joins_pure {T1 T2 : List Tok} {k : Int} (h1 : Tvs T1) (h2 : Tvs T2) (h : Tvs (T1 ++ Mv k T2)) : JoinsSaid k (parseO T1) (parseO T2) (parseO (T1 ++ Mv k T2)) := by
 have a1 := parse_sim h1
 have a2 := parse_sim h2
 have a := parse_sim h
 have m1 := module_bis (k := 0) (tl := Mv k T2) (ll := lastOf 1 T1) (ll' := lastOf 1 (T1 ++ Mv k T2)) (T1.length + 1) ((T1 ++ Mv k T2).length + 1) [] [] ⟨T1, 0, 0⟩ ⟨T1 ++ Mv k T2, 0, 0⟩ ⟨rfl, rfl, by rw [mv_zero]⟩ (Nat.lt_succ_self _) (Nat.lt_succ_self _)
 generalize moduleD (lastOf 1 T1) (T1.length + 1) [] [] ⟨T1, 0, 0⟩ = D1 at *
 generalize moduleD (lastOf 1 (T1 ++ Mv k T2)) ((T1 ++ Mv k T2).length + 1) [] [] ⟨T1 ++ Mv k T2, 0, 0⟩ = D at *
 cases e1 : parseO T1 with
 | bad e ln =>
  rw [e1] at a1
  obtain ⟨b0, b1, b2⟩ := a1
  rcases m1 with ⟨g, -⟩ | ⟨g, -⟩ | f
  ·exact absurd (b1.symm.trans g) b0
  ·exact Or.inl (b1.symm.trans g)
  ·refine Or.inr ?_
   rw [a.bad (by rw [f.2.1]; exact f.1), f.2.1, f.2.2, b1, b2, Int.add_zero]
 | ok m l r =>
  rw [e1] at a1
  obtain ⟨rfl, -⟩ := a1
  rcases m1 with ⟨-, n, s, hs, hsr, hn, rfl⟩ | ⟨g, -⟩ | f
  ·have m2 := module_bis (k := k) (tl := []) (ll := lastOf 1 T2) (ll' := lastOf 1 (T1 ++ Mv k T2)) (T2.length + 1) n [] [] ⟨T2, 0, 0⟩ s ⟨rfl, hs, by rw [hsr, List.append_nil]⟩ (Nat.lt_succ_self _) (by rw [hsr]; exact hn)
   rw [mod_acc] at a
   generalize moduleD (lastOf 1 T2) (T2.length + 1) [] [] ⟨T2, 0, 0⟩ = D2 at *
   generalize moduleD (lastOf 1 (T1 ++ Mv k T2)) n [] [] s = E at *
   cases e2 : parseO T2 with
   | bad f on =>
    rw [e2] at a2
    obtain ⟨b0, b1, b2⟩ := a2
    rcases m2 with ⟨g, -⟩ | ⟨g, g'⟩ | q
    ·exact absurd (b1.symm.trans g) b0
    ·have h17 := g' rfl
     refine ⟨E.2.ln, ?_, Or.inr (b1.symm.trans g)⟩
     rw [a.bad (by show E.2.e ≠ 0; rw [h17]; decide)]
     show Out.bad E.2.e E.2.ln = _
     rw [h17, ← b1, g]
    ·refine ⟨E.2.ln, ?_, Or.inl (by rw [q.2.2, b2])⟩
     rw [a.bad (by show E.2.e ≠ 0; rw [q.2.1]; exact q.1)]
     show Out.bad E.2.e E.2.ln = _
     rw [q.2.1, b1]
   | ok n2 l2 r2 =>
    rw [e2] at a2
    obtain ⟨rfl, -⟩ := a2
    rcases m2 with ⟨-, n3, s3, hs3, hr3, -, rfl⟩ | ⟨g, -⟩ | f
    ·rw [mod_stop _ _ _ _ hr3] at a
     exact a.good hs3
    ·cases g
    ·exact absurd rfl f.1
  ·cases g
  ·exact absurd rfl f.1
end Go.Proofs.YtbnmmbjajheedaaGreatDoor
namespace Go.Proofs.YtbnmmbjajheedaaGreatDoor
set_option maxHeartbeats 64000000
set_option maxRecDepth 100000
open Go.RowKit Go.Lib
theorem wi_kb {a b ll : Int} (h : a ≤ ll ∧ ll ≤ b) : Kb (Wi a b) ll where
 nx := fun s hs => ⟨fun y hy => hs.1 y (List.mem_of_mem_tail hy), hs.2⟩
 bd := fun s er _ hs => by
  unfold St.bad
  split
  ·exact hs
  ·cases hr : s.r with
   | nil => exact ⟨fun y hy => (by cases hy), h⟩
   | cons y r => exact ⟨fun z hz => hs.1 z (by rw [hr]; exact hz), hs.1 y (by rw [hr]; exact List.mem_cons_self ..)⟩
theorem last_wi {a b : Int} : ∀ (T : List Tok) (l : Int), a ≤ l → l ≤ b → (∀ y, y ∈ T → a ≤ y.2 ∧ y.2 ≤ b) → a ≤ lastOf l T ∧ lastOf l T ≤ b
 | [], _, h1, h2, _ => ⟨h1, h2⟩
 | y :: T, _, _, _, h => last_wi T y.2 (h y (List.mem_cons_self ..)).1 (h y (List.mem_cons_self ..)).2 fun z hz => h z (List.mem_cons_of_mem _ hz)
theorem parse_line {T : List Tok} {b : Int} (hv : Tvs T) (h1 : 1 ≤ b) (hT : ∀ y, y ∈ T → 0 ≤ y.2 ∧ y.2 ≤ b) {e ln : Int} (h : parseO T = .bad e ln) : 0 ≤ ln ∧ ln ≤ b := by
 have a := parse_sim hv
 have hl := last_wi T 1 (by omega) h1 hT
 have k := module_k (wi_kb hl) (T.length + 1) [] [] ⟨T, 0, 0⟩ ⟨hT, by simp, by simp; omega⟩
 rw [h] at a
 rw [← a.2.2]
 exact k.2
end Go.Proofs.YtbnmmbjajheedaaGreatDoor
namespace Go.Proofs.YtbnmmbjajheedaaGreatDoor
set_option maxHeartbeats 64000000
set_option maxRecDepth 100000
open Go.RowKit Go.Lib
def Res.join (R : Res) (S : List (Tk × Int) → Res) : Res :=
 match R with
 | .good A => S A
 | .bad e l => .bad e l
def thenL (t : List UInt8) (n : Int) (A : List (Tk × Int)) : Res := lexA (t.length + 1) t n A
theorem index_ten : ∀ (l : List UInt8), (indexByte l 10 < 0 → l.count 10 = 0) ∧ (0 ≤ indexByte l 10 → (l.drop (indexByte l 10).toNat).count 10 = l.count 10)
 | [] => ⟨fun _ => rfl, fun _ => by simp⟩
 | c :: l => by
  obtain ⟨h1, h2⟩ := index_ten l
  obtain ⟨i1, i2, i3, -⟩ := index_le l 10
  unfold indexByte
  by_cases g : (c == 10) = true
  ·rw [if_pos g]
   exact ⟨fun h => by omega, fun _ => rfl⟩
  ·rw [if_neg g]
   have hc : (c :: l).count 10 = l.count 10 := List.count_cons_of_ne (by simpa using g)
   rw [hc]
   by_cases g2 : (indexByte l 10 == -1) = true
   ·rw [if_pos g2]
    have g3 : indexByte l 10 = -1 := by simpa using g2
    exact ⟨fun _ => h1 (by omega), fun h => by omega⟩
   ·rw [if_neg g2]
    have g3 : indexByte l 10 ≠ -1 := by simpa using g2
    refine ⟨fun h => by omega, fun _ => ?_⟩
    have e : (1 + indexByte l 10).toNat = (indexByte l 10).toNat + 1 := by omega
    first
    | rw [e, List.drop_succ_cons]
    | rw [show (indexByte l 10 + 1).toNat = (indexByte l 10).toNat + 1 by omega, List.drop_succ_cons]
    exact h2 (by omega)
theorem index_join (t : List UInt8) : ∀ (l : List UInt8), (indexByte l 10 < 0 → indexByte (l ++ 10 :: t) 10 = l.length) ∧ (0 ≤ indexByte l 10 → indexByte (l ++ 10 :: t) 10 = indexByte l 10)
 | [] => ⟨fun _ => by simp [indexByte], fun h => by simp [indexByte] at h⟩
 | c :: l => by
  obtain ⟨h1, h2⟩ := index_join t l
  obtain ⟨i1, i2, i3, -⟩ := index_le l 10
  rw [List.cons_append]
  unfold indexByte
  by_cases g : (c == 10) = true
  ·rw [if_pos g, if_pos g]
   exact ⟨fun h => by omega, fun _ => rfl⟩
  ·rw [if_neg g, if_neg g]
   by_cases g3 : indexByte l 10 < 0
   ·have e := h1 g3
    have e2 : indexByte l 10 = -1 := i3 g3
    rw [e, e2]
    refine ⟨fun _ => ?_, fun h => ?_⟩
    ·rw [if_neg (by simp <;> omega)]
     simp only [List.length_cons]
     omega
    ·simp at h
   ·have e := h2 (by omega)
    rw [e]
    exact ⟨fun h => by rw [if_neg (by simp <;> omega)] at h; omega, fun _ => rfl⟩
theorem count_drop {l u : List UInt8} (hu : u <+: l) (h : ∀ x, x ∈ u → ¬ Gap x) : (l.drop u.length).count 10 = l.count 10 := by
 obtain ⟨v, rfl⟩ := hu
 have h0 : u.count 10 = 0 := List.count_eq_zero.2 fun hx => h 10 hx (Or.inr rfl)
 simp [List.count_append, h0]
theorem lexA_join (t : List UInt8) : ∀ (f : Nat) (l : List UInt8) (line : Int) (acc : List (Tk × Int)) (g : Nat), l.length < f → (l ++ 10 :: t).length < g →
  lexA g (l ++ 10 :: t) line acc = (lexA f l line acc).join (thenL t (line + l.count 10 + 1))
 | 0, l, _, _, _, hf, _ => by omega
 | f + 1, [], line, acc, g, _, hg => by
  obtain ⟨g, rfl⟩ : ∃ k, g = k + 1 := ⟨g - 1, by omega⟩
  simp only [List.nil_append, List.length_cons] at hg ⊢
  have e : lexA (f + 1) [] line acc = .good acc := by unfold lexA; rfl
  rw [e]
  conv => lhs; unfold lexA
  rw [if_pos rfl]
  simp only [Res.join, thenL, List.count_nil, Int.natCast_zero, Int.add_zero]
  exact fuel _ _ _ _ _ (by omega) (by omega)
 | f + 1, c :: r, line, acc, g, hf, hg => by
  obtain ⟨g, rfl⟩ : ∃ k, g = k + 1 := ⟨g - 1, by omega⟩
  have hcr : c :: r ++ 10 :: t = c :: (r ++ 10 :: t) := rfl
  rw [hcr] at hg ⊢
  simp only [List.length_cons, List.length_append] at hf hg
  unfold lexA
  by_cases h10 : c = 10
  ·rw [if_pos h10, if_pos h10, lexA_join t f r _ _ g (by omega) (by rw [List.length_append, List.length_cons]; omega)]
   have e : (c :: r).count 10 = r.count 10 + 1 := by rw [h10]; exact List.count_cons_self ..
   rw [e]
   have e2 : line + 1 + ((r.count 10 : Nat) : Int) + 1 = line + ((r.count 10 + 1 : Nat) : Int) + 1 := by omega
   rw [e2]
  ·have hc : (c :: r).count 10 = r.count 10 := List.count_cons_of_ne h10
   rw [if_neg h10, if_neg h10]
   by_cases hbl : c = 9 ∨ c = 13 ∨ c = 32
   ·rw [if_pos hbl, if_pos hbl, lexA_join t f r _ _ g (by omega) (by rw [List.length_append, List.length_cons]; omega), hc]
   ·rw [if_neg hbl, if_neg hbl]
    have hpp : hasPrefix (c :: (r ++ 10 :: t)) [45, 45] = hasPrefix (c :: r) [45, 45] := by rw [← hcr]; exact pre_gap (by decide)
    rw [hpp]
    by_cases hp : hasPrefix (c :: r) [45, 45] = true
    ·rw [if_pos hp, if_pos hp]
     obtain ⟨j1, j2⟩ := index_join t (c :: r)
     obtain ⟨k1, k2⟩ := index_ten (c :: r)
     rw [hcr] at j1 j2
     have hip := index_pos (r := r) h10
     obtain ⟨i1, i2, i3, -⟩ := index_le (c :: r) 10
     simp only [List.length_cons] at i1 j1
     by_cases hi : indexByte (c :: r) 10 < 0
     ·rw [if_pos hi, j1 hi, if_neg (by omega)]
      have e : (((r.length + 1 : Nat) : Int)).toNat = (c :: r).length := by simp
      rw [e, ← hcr, List.drop_left]
      obtain ⟨g, rfl⟩ : ∃ k, g = k + 1 := ⟨g - 1, by omega⟩
      conv => lhs; unfold lexA
      rw [if_pos rfl]
      simp only [Res.join, thenL]
      rw [k1 hi]
      simp only [Int.natCast_zero, Int.add_zero]
      exact fuel _ _ _ _ _ (by omega) (by omega)
     ·rw [if_neg hi, j2 (by omega), if_neg hi]
      have hq : (indexByte (c :: r) 10).toNat ≤ (c :: r).length := by simp only [List.length_cons]; omega
      have e : (c :: (r ++ 10 :: t)).drop (indexByte (c :: r) 10).toNat = (c :: r).drop (indexByte (c :: r) 10).toNat ++ 10 :: t := by
       rw [← hcr, List.drop_append_of_le_length hq]
      have hq1 : 1 ≤ (indexByte (c :: r) 10).toNat := by omega
      rw [e, lexA_join t f ((c :: r).drop (indexByte (c :: r) 10).toNat) line acc g (by rw [List.length_drop, List.length_cons]; omega) (by rw [List.length_append, List.length_drop, List.length_cons, List.length_cons]; omega), k2 (by omega)]
    ·rw [if_neg hp, if_neg hp]
     have hrd : readL (c :: (r ++ 10 :: t)) = readL (c :: r) := by rw [← hcr]; exact read_gap (List.cons_ne_nil c r) (Or.inr rfl)
     rw [hrd]
     by_cases hr : (readL (c :: r)).2 = 0
     ·rw [if_pos hr, if_pos hr]
      by_cases hm : acc.length = 4096
      ·rw [if_pos hm, if_pos hm]
       rfl
      ·rw [if_neg hm, if_neg hm]
       obtain ⟨-, h2, h3⟩ := read_own (List.cons_ne_nil c r) hr
       have hle := read_len hr
       have hc2 := count_drop h2 h3
       have e : (c :: (r ++ 10 :: t)).drop (readL (c :: r)).1.t.length = (c :: r).drop (readL (c :: r)).1.t.length ++ 10 :: t := by
        rw [← hcr, List.drop_append_of_le_length (by simpa using hle.2)]
       simp only [List.length_cons] at hle
       rw [e, lexA_join t f ((c :: r).drop (readL (c :: r)).1.t.length) line _ g (by rw [List.length_drop, List.length_cons]; omega) (by rw [List.length_append, List.length_drop, List.length_cons, List.length_cons]; omega), hc2]
     ·rw [if_neg hr, if_neg hr]
      rfl
def Res.ahead (A : List (Tk × Int)) : Res → Res
 | .good B => .good (A ++ B)
 | .bad e l => .bad e l
theorem lexA_ahead (A : List (Tk × Int)) : ∀ (f : Nat) (l : List UInt8) (line : Int) (acc : List (Tk × Int)), A.length + acc.length + l.length ≤ 4096 → lexA f l line (A ++ acc) = (lexA f l line acc).ahead A
 | 0, l, line, acc, _ => by unfold lexA; rfl
 | f + 1, [], line, acc, _ => by unfold lexA; rfl
 | f + 1, c :: r, line, acc, h => by
  simp only [List.length_cons] at h
  unfold lexA
  split
  ·exact lexA_ahead A f _ _ _ (by omega)
  ·split
   ·exact lexA_ahead A f _ _ _ (by omega)
   ·split
    ·split
     ·rfl
     ·exact lexA_ahead A f _ _ _ (by rw [List.length_drop, List.length_cons]; omega)
    ·split
     ·rename_i hr
      have hle := read_len hr
      rw [if_neg (by rw [List.length_append]; omega), if_neg (by omega), List.append_assoc]
      simp only [List.length_cons] at hle
      exact lexA_ahead A f _ _ _ (by simp only [List.length_append, List.length_drop, List.length_cons, List.length_nil]; omega)
     ·rfl
theorem lexL_join (s t : List UInt8) (hs : s.length + t.length ≤ 4096) : lexL (s ++ 10 :: t) = (lexL s).join fun A => ((lexL t).shift (s.count 10 + 1)).ahead A := by
 have h := lexA_join t (s.length + 1) s 1 [] ((s ++ 10 :: t).length + 1) (by omega) (by omega)
 unfold lexL
 rw [h]
 cases hA : lexA (s.length + 1) s 1 [] with
 | bad e l => rfl
 | good A =>
  obtain ⟨ho, -, hb⟩ := lexL_own (l := s) (T := A) hA
  have hl := len_bytes A ho
  simp only [Res.join, thenL]
  have h1 := lexA_ahead A (t.length + 1) t (1 + (s.count 10 : Int) + 1) [] (by simp only [List.length_nil]; omega)
  rw [List.append_nil] at h1
  have h2 := lexA_shift ((s.count 10 : Int) + 1) (t.length + 1) t 1 []
  simp only [List.map_nil] at h2
  rw [h1, ← h2]
  have e : 1 + (s.count 10 : Int) + 1 = 1 + ((s.count 10 : Int) + 1) := by omega
  rw [e]
end Go.Proofs.YtbnmmbjajheedaaGreatDoor
namespace Go.Proofs.YtbnmmbjajheedaaGreatDoor
set_option maxHeartbeats 64000000
set_option maxRecDepth 100000
open Go.RowKit Go.Lib
theorem mod_len (ll : Int) : ∀ (n : Nat) (cs : List (Nm × Int)) (bs : List Bnd) (s : St), (moduleD ll n cs bs s).1.1.length + (moduleD ll n cs bs s).1.2.length + mS (moduleD ll n cs bs s).2 ≤ cs.length + bs.length + mS s
 | 0, _, _, _ => Nat.le_refl _
 | n + 1, cs, bs, s => by
  by_cases g : s.e = 0 ∧ s.r ≠ []
  ·rw [mod_step ll n cs bs g.1 g.2]
   split
   ·have h1 := mod_len ll n (cs ++ (decsD ll s.next).1) bs (needD ll [59] (decsD ll s.next).2)
    have h2 := need_mn ll [59] (decsD ll s.next).2
    have h3 : (decsD ll s.next).1.length + mS (decsD ll s.next).2 ≤ 0 + mS s.next := declsd_len ll _ [] _
    have h4 := next_mn s
    rw [List.length_append] at h1
    omega
   ·have h1 := mod_len ll n cs (bs ++ [(bindD ll (exprD ll 200) s).1]) (needD ll [59] (bindD ll (exprD ll 200) s).2)
    have h2 := need_mn ll [59] (bindD ll (exprD ll 200) s).2
    have h3 := bind_lt (ll := ll) (expr_mn (ll := ll) 200) g.1
    rw [List.length_append, List.length_singleton] at h1
    omega
  ·rw [show moduleD ll (n + 1) cs bs s = ((cs, bs), s) by unfold moduleD; exact if_neg g]
   exact Nat.le_refl _
theorem parse_len {T : List Tok} (hv : Tvs T) {m : Md} {l : Int} {r : List Tok} (h : parseO T = .ok m l r) : m.1.length + m.2.length ≤ T.length + 1 := by
 have a := parse_sim hv
 have b := mod_len (lastOf 1 T) (T.length + 1) [] [] ⟨T, 0, 0⟩
 rw [h] at a
 obtain ⟨a, -⟩ := a
 rw [a] at b
 have : mS ⟨T, 0, 0⟩ = T.length + 1 := rfl
 simp only [List.length_nil] at b
 omega
theorem modL_len {l : List UInt8} {m : Md} {ln : Int} {r : List Tok} (h : modL l = .ok m ln r) : m.1.length + m.2.length ≤ 4097 := by
 unfold modL at h
 cases hl : lexL l with
 | bad e k => rw [hl] at h; cases h
 | good T =>
  rw [hl] at h
  have h1 := parse_len (lexL_tvs hl) h
  have h2 := (lexL_own hl).2.1
  omega
theorem modL_line {l : List UInt8} {e ln : Int} (h : modL l = .bad e ln) : -(1 + (l.length : Int)) ≤ ln ∧ ln ≤ 1 + l.length := by
 have hb := lexL_bd l
 unfold modL at h
 cases hl : lexL l with
 | bad e k =>
  rw [hl] at h hb
  cases h
  have : 0 ≤ ln ∧ ln ≤ 1 + (l.length : Int) := by simpa [Bd] using hb
  omega
 | good T =>
  rw [hl] at h hb
  have := parse_line (b := 1 + (l.length : Int)) (lexL_tvs hl) (by omega) (by simpa [Bd] using hb) h
  omega
def Jn (L : Int) (o1 o2 o : Out Md) (R : Res) : Prop :=
 (∃ e ln, o1 = .bad e ln ∧ (e = 17 ∨ (∃ e2 k2 e3 l3, R = .bad e2 k2 ∧ e2 ≠ 0 ∧ o = .bad e3 l3 ∧ e3 ≠ 0) ∨ ∃ B, R = .good B ∧ o = .bad e ln)) ∨
 (∃ m l r f on, o1 = .ok m l r ∧ o2 = .bad f on ∧ -2000 ≤ on ∧ on ≤ 2000 ∧ ∃ line, o = .bad f line ∧ (line = on + L ∨ f = 17)) ∨
 (∃ m l r n l2 r2 l3 r3, o1 = .ok m l r ∧ o2 = .ok n l2 r2 ∧ o = .ok (m.1 ++ n.1, m.2 ++ n.2) l3 r3 ∧ m.1.length + m.2.length ≤ 4097 ∧ n.1.length + n.2.length ≤ 4097)
theorem tvs_shift {A B : List Tok} {k : Int} (h1 : Tvs A) (h2 : Tvs B) : Tvs (A ++ Mv k B) := fun x hx => by
 rcases List.mem_append.1 hx with h | h
 ·exact h1 x h
 ·obtain ⟨y, hy, rfl⟩ := List.mem_map.1 h
  exact h2 y hy
theorem jn_of (s t : List UInt8) (hs : s.length + t.length ≤ 4096) (ht : t.length ≤ 1900) : Jn (s.count 10 + 1) (modL s) (modL t) (modL (s ++ 10 :: t)) (lexL t) := by
 have hj := lexL_join s t hs
 cases ha : lexL s with
 | bad e k =>
  have h0 := lexL_bad ha
  rw [ha] at hj
  have h1 : modL s = .bad e k := by unfold modL; rw [ha]
  have h2 : modL (s ++ 10 :: t) = .bad e k := by unfold modL; rw [hj]; rfl
  refine Or.inl ⟨e, k, h1, Or.inr ?_⟩
  cases hb : lexL t with
  | bad e2 k2 => exact Or.inl ⟨e2, k2, e, k, rfl, lexL_bad hb, h2, h0⟩
  | good B => exact Or.inr ⟨B, rfl, h2⟩
 | good A =>
  have h1 : modL s = parseO A := by unfold modL; rw [ha]
  rw [ha] at hj
  cases hb : lexL t with
  | bad e2 k2 =>
   have h0 := lexL_bad hb
   have h2 : modL t = .bad e2 k2 := by unfold modL; rw [hb]
   rw [hb] at hj
   have h3 : modL (s ++ 10 :: t) = .bad e2 (k2 + (s.count 10 + 1)) := by unfold modL; rw [hj]; rfl
   cases hp : modL s with
   | bad e ln => exact Or.inl ⟨e, ln, rfl, Or.inr (Or.inl ⟨e2, k2, e2, _, rfl, h0, h3, h0⟩)⟩
   | ok m l r => exact Or.inr (Or.inl ⟨m, l, r, e2, k2, rfl, h2, by have := modL_line h2; omega, by have := modL_line h2; omega, _, h3, Or.inl rfl⟩)
  | good B =>
   have h2 : modL t = parseO B := by unfold modL; rw [hb]
   rw [hb] at hj
   have h3 : modL (s ++ 10 :: t) = parseO (A ++ Mv (s.count 10 + 1) B) := by unfold modL; rw [hj]; rfl
   have hA := lexL_tvs ha
   have hB := lexL_tvs hb
   have hJ := joins_pure (k := s.count 10 + 1) hA hB (tvs_shift hA hB)
   rw [← h1, ← h2, ← h3] at hJ
   cases hp : modL s with
   | bad e ln =>
    rw [hp] at hJ
    exact Or.inl ⟨e, ln, rfl, hJ.imp id fun h => Or.inr ⟨B, rfl, h⟩⟩
   | ok m l r =>
    rw [hp] at hJ
    cases hq : modL t with
    | bad f on =>
     rw [hq] at hJ
     obtain ⟨line, h4, h5⟩ := hJ
     exact Or.inr (Or.inl ⟨m, l, r, f, on, rfl, rfl, by have := modL_line hq; omega, by have := modL_line hq; omega, line, h4, h5⟩)
    | ok n l2 r2 =>
     rw [hq] at hJ
     obtain ⟨l3, r3, h4⟩ := hJ
     exact Or.inr (Or.inr ⟨m, l, r, n, l2, r2, l3, r3, rfl, rfl, h4, modL_len hp, modL_len hq⟩)
theorem count_pj (s : ByteArray) (k : Nat) (hk : k < s.size) : (s.data.toList.take (k + 1)).count 10 = (s.data.toList.take k).count 10 + (if s.data.toList.getD k 0 = 10 then 1 else 0) := by
 have h' : k < s.data.toList.length := by rw [← size_eq]; exact hk
 rw [List.take_succ_eq_append_getElem h', List.count_append]
 have e : s.data.toList.getD k 0 = s.data.toList[k] := by rw [List.getD, List.getElem?_eq_getElem h']; rfl
 rw [e]
 by_cases g : s.data.toList[k] = 10
 ·rw [if_pos g, g]; rfl
 ·rw [if_neg g, List.count_singleton, if_neg (by simpa using g)]
theorem ten_pj (c : UInt8) : (((c.toNat : Int) == 10) = true ∧ c = 10) ∨ (((c.toNat : Int) == 10) = false ∧ c ≠ 10) := by
 by_cases g : c = 10
 ·subst g; exact Or.inl ⟨rfl, rfl⟩
 ·refine Or.inr ⟨?_, g⟩
  have : c.toNat ≠ 10 := fun e => g (UInt8.toNat_inj.1 (by rw [e]; rfl))
  simp
  omega
end Go.Proofs.YtbnmmbjajheedaaGreatDoor
namespace Go.Proofs.YtbnmmbjajheedaaGreatDoor
set_option maxHeartbeats 64000000
set_option maxRecDepth 100000
open Go.RowKit Go.Lib
def IDXj : Nat → Nat
 | 0 => 0 | 1 => 3 | 2 => 6 | 3 => 7 | 4 => 10 | 5 => 13 | 6 => 15 | 7 => 14 | n => n + 100
def BASEj : List Nat := [1, 2, 4, 5, 8, 9, 11, 12]
def Dj : List (List Nat) := [[], [], [1], [0, 2], [], [4], [3, 5, 3], [], [], [8], [7, 9, 6], [], [11], [10, 12, 10], [6, 13], [], [15, 14, 13, 0, 1, 2, 3, 4, 5, 6, 7, 8, 9, 10, 11, 12, 13, 14, 15]]
def Lj (n : Nat) : Array Bool := LsOf BASEj 8 IDXj Dj.length n
theorem chkj : chkSome Dj BASEj 8 IDXj (zeros 8) 255 = true := by decide +kernel
def okj (n : Nat) : Bool := (!n.testBit 1 || n.testBit 0) && (!n.testBit 2 || n.testBit 1) && (!n.testBit 4 || n.testBit 3) && (!n.testBit 5 || n.testBit 4) && (!n.testBit 7 || (n.testBit 2 && n.testBit 5))
def phj (n : Nat) : Nat × Nat × Nat × Nat := ((n.testBit 0).toNat + (n.testBit 1).toNat + (n.testBit 2).toNat, (n.testBit 3).toNat + (n.testBit 4).toNat + (n.testBit 5).toNat, (n.testBit 6).toNat, (n.testBit 7).toNat)
def prej (j : Nat) (p : Nat × Nat × Nat × Nat) : Bool :=
 match j with
 | 0 => p.1 == 0 | 1 => p.1 == 1 | 2 => p.1 == 2 | 3 => p.2.1 == 0 | 4 => p.2.1 == 1 | 5 => p.2.1 == 2 | 6 => p.2.2.1 == 0 | _ => p.1 == 3 && p.2.1 == 3 && p.2.2.2 == 0
def nxj (j : Nat) (p : Nat × Nat × Nat × Nat) : Nat × Nat × Nat × Nat :=
 match j with
 | 0 => (1, p.2) | 1 => (2, p.2) | 2 => (3, p.2) | 3 => (p.1, 1, p.2.2) | 4 => (p.1, 2, p.2.2) | 5 => (p.1, 3, p.2.2) | 6 => (p.1, p.2.1, 1, p.2.2.2) | _ => (p.1, p.2.1, p.2.2.1, 1)
theorem chkP : (List.range 255).all (fun n => (List.range 8).all fun j => !okj n || n.testBit j || !(((Dj[IDXj j]?).getD []).all (lsOf BASEj 8 IDXj n)) || (okj (n + 2 ^ j) && decide (phj (n + 2 ^ j) = nxj j (phj n)) && prej j (phj n))) = true := by decide +kernel
theorem bitsj (n j : Nat) (hn : n < 255) (hj : j < 8) (hb : n.testBit j = false) (i : Nat) (hi : i < 8) : (n + 2 ^ j).testBit i = (n.testBit i || decide (i = j)) := by
 have hq : ∀ n : Fin 255, ∀ j : Fin 8, n.val.testBit j.val = false → ∀ i : Fin 8, (n.val + 2 ^ j.val).testBit i.val = (n.val.testBit i.val || decide (i.val = j.val)) := by decide +kernel
 exact hq ⟨n, hn⟩ ⟨j, hj⟩ hb ⟨i, hi⟩
structure Rw (W w : World) (e : TypeId) (size n : Nat) (v : Value) (xs : List Value) (g : Nat) : Prop where
 own : w.ownsRow W.heap.size e size v n xs
 blk : v.ownBlock = some g
 lo : W.heap.size ≤ g
 hi : g < w.heap.size
theorem Rw.keep {W w w' : World} {e : TypeId} {size n g q : Nat} {v : Value} {xs : List Value} (h : Rw W w e size n v xs g) (hg : w.grownBy w' (some q)) (hq : g ≠ q) : Rw W w' e size n v xs g :=
 ⟨own_o h.own hg (fun g' e1 e2 => hq (by rw [h.blk] at e1; rw [← e1] at e2; exact Oi e2)), h.blk, h.lo, Nat.lt_of_lt_of_le h.hi hg.size⟩
theorem Rw.below {W w w' : World} {e : TypeId} {size n g : Nat} {v : Value} {xs : List Value} (h : Rw W w e size n v xs g) (hb : Below w.heap.size w w') : Rw W w' e size n v xs g :=
 ⟨own_below h.own hb, h.blk, h.lo, Nat.lt_of_lt_of_le h.hi hb.size⟩
theorem Rw.onto {W w w' : World} {e : TypeId} {size n n0 g cap : Nat} {v : Value} {xs xs0 : List Value} {ao : Option Addr} (h : Rw W w e size n0 v xs0 g) (hO : Onto w W.heap.size e size v n xs ao cap w') :
  ∃ g', Rw W w' e size n (.slice ao n cap) xs g' ∧ (g' = g ∨ g' = w.heap.size) ∧ w.grownBy w' (some g) := by
 obtain ⟨h1, h2, h3⟩ := hO
 rw [h.blk] at h2 h3
 have hl := h.lo
 have hh := h.hi
 rcases h3 with h3 | h3
 ·exact ⟨g, ⟨h1, h3, h.lo, Nat.lt_of_lt_of_le h.hi h2.size⟩, Or.inl rfl, h2⟩
 ·exact ⟨w.heap.size, ⟨h1, h3, by omega, (h1.lt _ h3).2⟩, Or.inr rfl, h2⟩
def Ph (W w : World) (e : TypeId) (size n1 n2 : Nat) (x1 x2 : List Value) (p : Nat) (v0 v1 v2 : Value) (g : Nat) : Prop :=
 match p with
 | 0 => v0 = undef ∧ v1 = undef ∧ v2 = undef
 | 1 => Rw W w e size 0 v0 [] g ∧ v1 = undef ∧ v2 = undef
 | 2 => Rw W w e size (0 + n1) v1 ([] ++ x1) g ∧ v2 = undef
 | _ => Rw W w e size (0 + n1 + n2) v2 ([] ++ x1 ++ x2) g
theorem Ph.keep {W w w' : World} {e : TypeId} {size n1 n2 p g q : Nat} {x1 x2 : List Value} {v0 v1 v2 : Value} (h : Ph W w e size n1 n2 x1 x2 p v0 v1 v2 g) (hg : w.grownBy w' (some q)) (hq : p ≠ 0 → g ≠ q) : Ph W w' e size n1 n2 x1 x2 p v0 v1 v2 g := by
 match p, h, hq with
 | 0, h, _ => exact h
 | 1, h, hq => exact ⟨h.1.keep hg (hq (by decide)), h.2⟩
 | 2, h, hq => exact ⟨h.1.keep hg (hq (by decide)), h.2⟩
 | p + 3, h, hq => exact Rw.keep h hg (hq (by omega))
theorem Ph.below {W w w' : World} {e : TypeId} {size n1 n2 p g : Nat} {x1 x2 : List Value} {v0 v1 v2 : Value} (h : Ph W w e size n1 n2 x1 x2 p v0 v1 v2 g) (hb : Below w.heap.size w w') : Ph W w' e size n1 n2 x1 x2 p v0 v1 v2 g := by
 match p, h with
 | 0, h => exact h
 | 1, h => exact ⟨h.1.below hb, h.2⟩
 | 2, h => exact ⟨h.1.below hb, h.2⟩
 | p + 3, h => exact Rw.below h hb
theorem Ph.hi {W w : World} {e : TypeId} {size n1 n2 p g : Nat} {x1 x2 : List Value} {v0 v1 v2 : Value} (h : Ph W w e size n1 n2 x1 x2 p v0 v1 v2 g) (hp : p ≠ 0) : g < w.heap.size := by
 match p, h, hp with
 | 0, _, hp => exact absurd rfl hp
 | 1, h, _ => exact h.1.hi
 | 2, h, _ => exact h.1.hi
 | p + 3, h, _ => exact Rw.hi h
def Bj (W w : World) (p : Nat) (v : Value) (g : Nat) : Prop :=
 match p with
 | 0 => v = undef
 | _ => v = .pointer (some ⟨g, 0, none⟩) ∧ BoxW w g [.slice none 0 0, .slice none 0 0] ∧ W.heap.size ≤ g ∧ g < w.heap.size
theorem Bj.keep {W w w' : World} {p g q : Nat} {v : Value} (h : Bj W w p v g) (hg : w.grownBy w' (some q)) (hq : p ≠ 0 → g ≠ q) : Bj W w' p v g := by
 match p, h, hq with
 | 0, h, _ => exact h
 | p + 1, h, hq => exact ⟨h.1, boxw_grown h.2.1 hg (hq (by omega)), h.2.2.1, Nat.lt_of_lt_of_le h.2.2.2 hg.size⟩
theorem Bj.hi {W w : World} {p g : Nat} {v : Value} (h : Bj W w p v g) (hp : p ≠ 0) : g < w.heap.size := by
 match p, h, hp with
 | 0, _, hp => exact absurd rfl hp
 | p + 1, h, _ => exact h.2.2.2
structure Two where
 m1 : Nat
 n1 : Nat
 x1 : List Value
 y1 : List Value
 m2 : Nat
 n2 : Nat
 x2 : List Value
 y2 : List Value
structure SJ (T : Two) (W : World) (F : Value → Value → Value → Value → Value → Value → Value → Value → Act) (p : Nat × Nat × Nat × Nat) (a : Act) (w : World) (v0 v1 v2 v3 v4 v5 v6 v7 : Value) (ga gb gc : Nat) : Prop where
 a : a = F v0 v1 v2 v3 v4 v5 v6 v7
 B : Below W.heap.size W w
 RA : Ph W w 67 2 T.m1 T.n1 T.x1 T.y1 p.1 v0 v1 v2 ga
 RB : Ph W w 51 10 T.m2 T.n2 T.x2 T.y2 p.2.1 v3 v4 v5 gb
 RC : Bj W w p.2.2.1 v6 gc
 RD : (p.2.2.2 = 0 ∧ v7 = undef) ∨ (p.2.2.2 ≠ 0 ∧ p.1 = 3 ∧ p.2.1 = 3 ∧ v7 = .agg #[v2, v5])
 ab : p.1 ≠ 0 → p.2.1 ≠ 0 → ga ≠ gb
 ac : p.1 ≠ 0 → p.2.2.1 ≠ 0 → ga ≠ gc
 bc : p.2.1 ≠ 0 → p.2.2.1 ≠ 0 → gb ≠ gc
theorem wp_empty_decl {o : Oper} {a : Act} {w : World} {K : Act → World → Prop} {Q : Exit → Act → World → Prop} (hop : o.op = Op.buildSlice 23 0 #[]) (hK : K (a.put o.dst (.slice (some ⟨w.heap.size, 0, none⟩) 0 0)) (w.alloc (.cells #[] 67))) : Oper.wp Tryz.prog o a w K Q := by
 unfold Oper.wp
 simp [execOp, hop, go_sem, run_underlying Tryz.underlying23, Tryz.sizeOf67]
 exact hK
theorem wp_empty_bind {o : Oper} {a : Act} {w : World} {K : Act → World → Prop} {Q : Exit → Act → World → Prop} (hop : o.op = Op.buildSlice 24 0 #[]) (hK : K (a.put o.dst (.slice (some ⟨w.heap.size, 0, none⟩) 0 0)) (w.alloc (.cells #[] 51))) : Oper.wp Tryz.prog o a w K Q := by
 unfold Oper.wp
 simp [execOp, hop, go_sem, run_underlying Tryz.underlying24, Tryz.sizeOf51]
 exact hK
theorem wp_modbox {o : Oper} {a : Act} {w : World} {K : Act → World → Prop} {Q : Exit → Act → World → Prop} (hop : o.op = Op.alloc 26) (hK : K (a.put o.dst (.pointer (some ⟨w.heap.size, 0, none⟩))) (w.alloc (.cells #[.slice none 0 0, .slice none 0 0] 26))) : Oper.wp Tryz.prog o a w K Q := by
 unfold Oper.wp
 simp [execOp, hop, go_sem]
 exact hK
theorem wp_modagg {o : Oper} {a : Act} {w : World} {i j : Nat} {a1 a2 : Option Addr} {n1 c1 n2 c2 : Nat} {K : Act → World → Prop} {Q : Exit → Act → World → Prop} (hop : o.op = Op.build 26 #[(0, .tmp i), (1, .tmp j)]) (hx : a.tmps[i]?.getD undef = .slice a1 n1 c1) (hy : a.tmps[j]?.getD undef = .slice a2 n2 c2) (hK : K (a.put o.dst (.agg #[.slice a1 n1 c1, .slice a2 n2 c2])) w) : Oper.wp Tryz.prog o a w K Q := by
 unfold Oper.wp
 simp [execOp, hop, go_sem, hx, hy]
 exact hK
def F8 (a : Act) (d0 d1 d2 d3 d4 d5 d6 d7 : Nat) (v0 v1 v2 v3 v4 v5 v6 v7 : Value) : Act := (((((((a.put (some d0) v0).put (some d1) v1).put (some d2) v2).put (some d3) v3).put (some d4) v4).put (some d5) v5).put (some d6) v6).put (some d7) v7
theorem Rw.sl {W w : World} {e : TypeId} {size n g : Nat} {v : Value} {xs : List Value} (h : Rw W w e size n v xs g) : ∃ a c, v = .slice a n c := by
 obtain ⟨a, c, h, -⟩ := own_shape h.own
 exact ⟨a, c, h⟩
theorem below_on {W w w' : World} {q : Nat} (h : Below W.heap.size W w) (hg : w.grownBy w' (some q)) (hq : W.heap.size ≤ q) : Below W.heap.size W w' := below_past2 h hg h.size hq
theorem regionJ {ops : Array Oper} {Q : Exit → Act → World → Prop} {S : World → Prop} {listed : Array Bool} (hl : listed = Lj 0) (T : Two) (W : World) (F : Value → Value → Value → Value → Value → Value → Value → Value → Act) (a0 : Act) (hF : F undef undef undef undef undef undef undef undef = a0) (hD : depsOf ops = Dj) {xa xb ya yb : Value} {b1 b2 b3 b4 i5 i6 : Nat}
  (hxa : W.ownsRow b1 67 2 xa T.m1 T.x1) (hxb : W.ownsRow b2 67 2 xb T.n1 T.y1) (hya : W.ownsRow b3 51 10 ya T.m2 T.x2) (hyb : W.ownsRow b4 51 10 yb T.n2 T.y2)
  (kxa : ∀ u ∈ T.x1, u.oneCell' = true) (kxb : ∀ u ∈ T.y1, u.oneCell' = true) (kya : ∀ u ∈ T.x2, u.oneCell' = true) (kyb : ∀ u ∈ T.y2, u.oneCell' = true) (hm1 : T.m1 + T.n1 ≤ 100000) (hm2 : T.m2 + T.n2 ≤ 100000)
  (o0 : ∃ o, ops[0]? = some o ∧ o.guard = none ∧ o.op = Op.buildSlice 23 0 #[] ∧ ∀ x v1 v2 v3 v4 v5 v6 v7, (F undef v1 v2 v3 v4 v5 v6 v7).put o.dst x = F x v1 v2 v3 v4 v5 v6 v7)
  (o3 : ∃ o s x, ops[3]? = some o ∧ o.guard = none ∧ o.op = .call { callee := .builtin .append, args := #[s, x], argTypes := #[23, 23] } ∧ (∀ v0 v1 v2 v3 v4 v5 v6 v7, (F v0 v1 v2 v3 v4 v5 v6 v7).eval s = v0 ∧ (F v0 v1 v2 v3 v4 v5 v6 v7).eval x = xa) ∧ ∀ x v0 v2 v3 v4 v5 v6 v7, (F v0 undef v2 v3 v4 v5 v6 v7).put o.dst x = F v0 x v2 v3 v4 v5 v6 v7)
  (o6 : ∃ o s x, ops[6]? = some o ∧ o.guard = none ∧ o.op = .call { callee := .builtin .append, args := #[s, x], argTypes := #[23, 23] } ∧ (∀ v0 v1 v2 v3 v4 v5 v6 v7, (F v0 v1 v2 v3 v4 v5 v6 v7).eval s = v1 ∧ (F v0 v1 v2 v3 v4 v5 v6 v7).eval x = xb) ∧ ∀ x v0 v1 v3 v4 v5 v6 v7, (F v0 v1 undef v3 v4 v5 v6 v7).put o.dst x = F v0 v1 x v3 v4 v5 v6 v7)
  (o7 : ∃ o, ops[7]? = some o ∧ o.guard = none ∧ o.op = Op.buildSlice 24 0 #[] ∧ ∀ x v0 v1 v2 v4 v5 v6 v7, (F v0 v1 v2 undef v4 v5 v6 v7).put o.dst x = F v0 v1 v2 x v4 v5 v6 v7)
  (o10 : ∃ o s x, ops[10]? = some o ∧ o.guard = none ∧ o.op = .call { callee := .builtin .append, args := #[s, x], argTypes := #[24, 24] } ∧ (∀ v0 v1 v2 v3 v4 v5 v6 v7, (F v0 v1 v2 v3 v4 v5 v6 v7).eval s = v3 ∧ (F v0 v1 v2 v3 v4 v5 v6 v7).eval x = ya) ∧ ∀ x v0 v1 v2 v3 v5 v6 v7, (F v0 v1 v2 v3 undef v5 v6 v7).put o.dst x = F v0 v1 v2 v3 x v5 v6 v7)
  (o13 : ∃ o s x, ops[13]? = some o ∧ o.guard = none ∧ o.op = .call { callee := .builtin .append, args := #[s, x], argTypes := #[24, 24] } ∧ (∀ v0 v1 v2 v3 v4 v5 v6 v7, (F v0 v1 v2 v3 v4 v5 v6 v7).eval s = v4 ∧ (F v0 v1 v2 v3 v4 v5 v6 v7).eval x = yb) ∧ ∀ x v0 v1 v2 v3 v4 v6 v7, (F v0 v1 v2 v3 v4 undef v6 v7).put o.dst x = F v0 v1 v2 v3 v4 x v6 v7)
  (o15 : ∃ o, ops[15]? = some o ∧ o.guard = none ∧ o.op = Op.alloc 26 ∧ ∀ x v0 v1 v2 v3 v4 v5 v7, (F v0 v1 v2 v3 v4 v5 undef v7).put o.dst x = F v0 v1 v2 v3 v4 v5 x v7)
  (o14 : ∃ o, ops[14]? = some o ∧ o.guard = none ∧ o.op = Op.build 26 #[(0, .tmp i5), (1, .tmp i6)] ∧ (∀ v0 v1 v2 v3 v4 v5 v6 v7, (F v0 v1 v2 v3 v4 v5 v6 v7).tmps[i5]?.getD undef = v2 ∧ (F v0 v1 v2 v3 v4 v5 v6 v7).tmps[i6]?.getD undef = v5) ∧ ∀ x v0 v1 v2 v3 v4 v5 v6, (F v0 v1 v2 v3 v4 v5 v6 undef).put o.dst x = F v0 v1 v2 v3 v4 v5 v6 x)
  (hS : ∀ w', Below W.heap.size W w' → S w')
  (hrest : ∀ w' v0 v1 v2 v3 v4 v5 v6 v7 ga gb gc a, SJ T W F (3, 3, 1, 1) a w' v0 v1 v2 v3 v4 v5 v6 v7 ga gb gc → wpAnyH Tryz.prog .any ops Q S 1 (Lj 255) a w') :
  wpAnyH Tryz.prog .any ops Q S 9 listed a0 W := by
 subst hl hF
 refine region_some (S := S) 8 Lj IDXj (zeros 8) (fun n a w => okj n = true ∧ ∃ v0 v1 v2 v3 v4 v5 v6 v7 ga gb gc, SJ T W F (phj n) a w v0 v1 v2 v3 v4 v5 v6 v7 ga gb gc) 1 255 (chkSome_spec hD chkj (fun n j a b c => bitsj n j a b c) (fun i j hi hj e => Fin.val_eq_of_eq ((by decide : ∀ a b : Fin 8, IDXj a.val = IDXj b.val → a = b) ⟨i, hi⟩ ⟨j, hj⟩ e))) ?_ (by decide) ?_ 8 0 _ W (by decide) (by decide) ⟨by decide, undef, undef, undef, undef, undef, undef, undef, undef, 0, 0, 0, rfl, Below.refl _ _, ⟨rfl, rfl, rfl⟩, ⟨rfl, rfl, rfl⟩, rfl, Or.inl ⟨rfl, rfl⟩, fun h => absurd rfl h, fun h => absurd rfl h, fun h => absurd rfl h⟩
 ·rintro n j a w hn hj hb hi ⟨hok, v0, v1, v2, v3, v4, v5, v6, v7, ga, gb, gc, h⟩
  obtain ⟨-, -, hd⟩ := (ready_deps hD (by decide +kernel)).1 hi
  have h1 := List.all_eq_true.1 (List.all_eq_true.1 chkP n (List.mem_range.2 hn)) j (List.mem_range.2 hj)
  rw [hok, hb, hd] at h1
  simp only [Bool.not_true, Bool.false_or, Bool.and_eq_true, decide_eq_true_eq] at h1
  obtain ⟨⟨k1, k2⟩, k3⟩ := h1
  show wpOp _ ops Q (IDXj j) (fun a' w' => S w' ∧ (okj (n + 2 ^ j) = true ∧ _)) a w
  rw [k1, k2]
  generalize phj n = p at *
  obtain ⟨pa, pb, pc, pd⟩ := p
  obtain ⟨rfl, hB, RA, RB, RC, RD, ab, ac, bc⟩ := h
  simp only at RA RB RC RD ab ac bc
  have hsz := hB.size
  have hj' : j = 0 ∨ j = 1 ∨ j = 2 ∨ j = 3 ∨ j = 4 ∨ j = 5 ∨ j = 6 ∨ j = 7 := by omega
  rcases hj' with rfl | rfl | rfl | rfl | rfl | rfl | rfl | rfl
  ·obtain ⟨o, ho, hg, hop, hput⟩ := o0
   have hp : pa = 0 := by simpa [prej] using k3
   subst hp
   obtain ⟨rfl, rfl, rfl⟩ := RA
   have hx := (Below.refl w.heap.size w).alloc Nr (.cells #[] 67)
   refine wpOp_of ho hg (wp_empty_decl hop ?_)
   rw [hput]
   have hB2 := onB' hB hx
   refine ⟨hS _ hB2, rfl, _, _, _, _, _, _, _, _, w.heap.size, gb, gc, rfl, hB2, ⟨⟨own_built (cs := #[]) (n := 0) (heap_alloc_new _ _) hsz (by simp) (Nat.zero_le _), rfl, hsz, by simp⟩, rfl, rfl⟩, RB.below hx, RC.keep (grown_of (b := w.heap.size) hx) (fun h => by have := RC.hi h; omega), RD.imp id (fun h => absurd h.2.1 (by decide)), fun _ h => by have := RB.hi h; omega, fun _ h => by have := RC.hi h; omega, bc⟩
  ·obtain ⟨o, s, x, ho, hg, hop, hev, hput⟩ := o3
   have hp : pa = 1 := by simpa [prej] using k3
   subst hp
   obtain ⟨hr, rfl, rfl⟩ := RA
   obtain ⟨f1, f2⟩ := hev v0 undef undef v3 v4 v5 v6 v7
   refine wpOp_of ho hg (wp_onto_decl s x hop w W.heap.size 0 v0 [] f1 hr.own b1 T.m1 T.x1 xa f2 (own_below hxa hB) kxa (by omega) hsz fun ao cap w' hon => ?_)
   rw [hput]
   obtain ⟨g', hr', hg', hgr⟩ := hr.onto hon
   have hB2 := below_on hB hgr hr.lo
   have hsz2 := hgr.size
   have lA := hr.hi
   refine ⟨hS _ hB2, rfl, _, _, _, _, _, _, _, _, g', gb, gc, rfl, hB2, ⟨hr', rfl⟩, RB.keep hgr (fun h => Ne.symm (ab (by decide) h)), RC.keep hgr (fun h => Ne.symm (ac (by decide) h)), RD.imp id (fun h => absurd h.2.1 (by decide)), fun _ h => ?_, fun _ h => ?_, bc⟩
   ·rcases hg' with rfl | rfl
    ·exact ab (by decide) h
    ·have := RB.hi h; omega
   ·rcases hg' with rfl | rfl
    ·exact ac (by decide) h
    ·have := RC.hi h; omega
  ·obtain ⟨o, s, x, ho, hg, hop, hev, hput⟩ := o6
   have hp : pa = 2 := by simpa [prej] using k3
   subst hp
   obtain ⟨hr, rfl⟩ := RA
   obtain ⟨f1, f2⟩ := hev v0 v1 undef v3 v4 v5 v6 v7
   refine wpOp_of ho hg (wp_onto_decl s x hop w W.heap.size (0 + T.m1) v1 ([] ++ T.x1) f1 hr.own b2 T.n1 T.y1 xb f2 (own_below hxb hB) kxb (by omega) hsz fun ao cap w' hon => ?_)
   rw [hput]
   obtain ⟨g', hr', hg', hgr⟩ := hr.onto hon
   have hB2 := below_on hB hgr hr.lo
   have hsz2 := hgr.size
   have lA := hr.hi
   refine ⟨hS _ hB2, rfl, _, _, _, _, _, _, _, _, g', gb, gc, rfl, hB2, hr', RB.keep hgr (fun h => Ne.symm (ab (by decide) h)), RC.keep hgr (fun h => Ne.symm (ac (by decide) h)), RD.imp id (fun h => absurd h.2.1 (by decide)), fun _ h => ?_, fun _ h => ?_, bc⟩
   ·rcases hg' with rfl | rfl
    ·exact ab (by decide) h
    ·have := RB.hi h; omega
   ·rcases hg' with rfl | rfl
    ·exact ac (by decide) h
    ·have := RC.hi h; omega
  ·obtain ⟨o, ho, hg, hop, hput⟩ := o7
   have hp : pb = 0 := by simpa [prej] using k3
   subst hp
   obtain ⟨rfl, rfl, rfl⟩ := RB
   have hx := (Below.refl w.heap.size w).alloc Nr (.cells #[] 51)
   refine wpOp_of ho hg (wp_empty_bind hop ?_)
   rw [hput]
   have hB2 := onB' hB hx
   refine ⟨hS _ hB2, rfl, _, _, _, _, _, _, _, _, ga, w.heap.size, gc, rfl, hB2, RA.below hx, ⟨⟨own_built (cs := #[]) (n := 0) (heap_alloc_new _ _) hsz (by simp) (Nat.zero_le _), rfl, hsz, by simp⟩, rfl, rfl⟩, RC.keep (grown_of (b := w.heap.size) hx) (fun h => by have := RC.hi h; omega), RD.imp id (fun h => absurd h.2.2.1 (by decide)), fun h _ => by have := RA.hi h; omega, ac, fun _ h => by have := RC.hi h; omega⟩
  ·obtain ⟨o, s, x, ho, hg, hop, hev, hput⟩ := o10
   have hp : pb = 1 := by simpa [prej] using k3
   subst hp
   obtain ⟨hr, rfl, rfl⟩ := RB
   obtain ⟨f1, f2⟩ := hev v0 v1 v2 v3 undef undef v6 v7
   refine wpOp_of ho hg (wp_onto_bind s x hop w W.heap.size 0 v3 [] f1 hr.own b3 T.m2 T.x2 ya f2 (own_below hya hB) kya (by omega) hsz fun ao cap w' hon => ?_)
   rw [hput]
   obtain ⟨g', hr', hg', hgr⟩ := hr.onto hon
   have hB2 := below_on hB hgr hr.lo
   have hsz2 := hgr.size
   have lA := hr.hi
   refine ⟨hS _ hB2, rfl, _, _, _, _, _, _, _, _, ga, g', gc, rfl, hB2, RA.keep hgr (fun h => ab h (by decide)), ⟨hr', rfl⟩, RC.keep hgr (fun h => Ne.symm (bc (by decide) h)), RD.imp id (fun h => absurd h.2.2.1 (by decide)), fun h _ => ?_, ac, fun _ h => ?_⟩
   ·rcases hg' with rfl | rfl
    ·exact ab h (by decide)
    ·have := RA.hi h; omega
   ·rcases hg' with rfl | rfl
    ·exact bc (by decide) h
    ·have := RC.hi h; omega
  ·obtain ⟨o, s, x, ho, hg, hop, hev, hput⟩ := o13
   have hp : pb = 2 := by simpa [prej] using k3
   subst hp
   obtain ⟨hr, rfl⟩ := RB
   obtain ⟨f1, f2⟩ := hev v0 v1 v2 v3 v4 undef v6 v7
   refine wpOp_of ho hg (wp_onto_bind s x hop w W.heap.size (0 + T.m2) v4 ([] ++ T.x2) f1 hr.own b4 T.n2 T.y2 yb f2 (own_below hyb hB) kyb (by omega) hsz fun ao cap w' hon => ?_)
   rw [hput]
   obtain ⟨g', hr', hg', hgr⟩ := hr.onto hon
   have hB2 := below_on hB hgr hr.lo
   have hsz2 := hgr.size
   have lA := hr.hi
   refine ⟨hS _ hB2, rfl, _, _, _, _, _, _, _, _, ga, g', gc, rfl, hB2, RA.keep hgr (fun h => ab h (by decide)), hr', RC.keep hgr (fun h => Ne.symm (bc (by decide) h)), RD.imp id (fun h => absurd h.2.2.1 (by decide)), fun h _ => ?_, ac, fun _ h => ?_⟩
   ·rcases hg' with rfl | rfl
    ·exact ab h (by decide)
    ·have := RA.hi h; omega
   ·rcases hg' with rfl | rfl
    ·exact bc (by decide) h
    ·have := RC.hi h; omega
  ·obtain ⟨o, ho, hg, hop, hput⟩ := o15
   have hp : pc = 0 := by simpa [prej] using k3
   subst hp
   obtain rfl : v6 = undef := RC
   have hx := (Below.refl w.heap.size w).alloc Nr (.cells #[.slice none 0 0, .slice none 0 0] 26)
   refine wpOp_of ho hg (wp_modbox hop ?_)
   rw [hput]
   have hB2 := onB' hB hx
   exact ⟨hS _ hB2, rfl, _, _, _, _, _, _, _, _, ga, gb, w.heap.size, rfl, hB2, RA.below hx, RB.below hx, ⟨rfl, BoxW.alloc w #[.slice none 0 0, .slice none 0 0] 26, hsz, by simp⟩, RD, ab, fun h _ => by have := RA.hi h; omega, fun h _ => by have := RB.hi h; omega⟩
  ·obtain ⟨o, ho, hg, hop, hev, hput⟩ := o14
   have hp : (pa = 3 ∧ pb = 3) ∧ pd = 0 := by simpa [prej] using k3
   obtain ⟨⟨rfl, rfl⟩, rfl⟩ := hp
   obtain rfl : v7 = undef := by
    rcases RD with h | h
    ·exact h.2
    ·exact absurd rfl h.1
   have hr1 : Rw W w 67 2 (0 + T.m1 + T.n1) v2 ([] ++ T.x1 ++ T.y1) ga := RA
   have hr2 : Rw W w 51 10 (0 + T.m2 + T.n2) v5 ([] ++ T.x2 ++ T.y2) gb := RB
   obtain ⟨a1, c1, rfl⟩ := hr1.sl
   obtain ⟨a2, c2, rfl⟩ := hr2.sl
   obtain ⟨f1, f2⟩ := hev v0 v1 (.slice a1 (0 + T.m1 + T.n1) c1) v3 v4 (.slice a2 (0 + T.m2 + T.n2) c2) v6 undef
   refine wpOp_of ho hg (wp_modagg hop f1 f2 ?_)
   rw [hput]
   exact ⟨hS _ hB, rfl, _, _, _, _, _, _, _, _, ga, gb, gc, rfl, hB, hr1, hr2, RC, Or.inr ⟨Nat.one_ne_zero, rfl, rfl, rfl⟩, ab, ac, bc⟩
 ·rintro a w ⟨-, v0, v1, v2, v3, v4, v5, v6, v7, ga, gb, gc, h⟩
  exact hrest w v0 v1 v2 v3 v4 v5 v6 v7 ga gb gc a h
theorem regionJ8 {ops : Array Oper} {Q : Exit → Act → World → Prop} {S : World → Prop} {listed : Array Bool} (hl : listed = Lj 0) (T : Two) (W : World) (a0 : Act) (d0 d1 d2 d3 d4 d5 d6 d7 : Nat) (hF : F8 a0 d0 d1 d2 d3 d4 d5 d6 d7 undef undef undef undef undef undef undef undef = a0) (hD : depsOf ops = Dj) {xa xb ya yb : Value} {b1 b2 b3 b4 i5 i6 : Nat}
  (hxa : W.ownsRow b1 67 2 xa T.m1 T.x1) (hxb : W.ownsRow b2 67 2 xb T.n1 T.y1) (hya : W.ownsRow b3 51 10 ya T.m2 T.x2) (hyb : W.ownsRow b4 51 10 yb T.n2 T.y2)
  (kxa : ∀ u ∈ T.x1, u.oneCell' = true) (kxb : ∀ u ∈ T.y1, u.oneCell' = true) (kya : ∀ u ∈ T.x2, u.oneCell' = true) (kyb : ∀ u ∈ T.y2, u.oneCell' = true) (hm1 : T.m1 + T.n1 ≤ 100000) (hm2 : T.m2 + T.n2 ≤ 100000)
  (o0 : ∃ o, ops[0]? = some o ∧ o.guard = none ∧ o.op = Op.buildSlice 23 0 #[] ∧ ∀ x v1 v2 v3 v4 v5 v6 v7, (F8 a0 d0 d1 d2 d3 d4 d5 d6 d7 undef v1 v2 v3 v4 v5 v6 v7).put o.dst x = F8 a0 d0 d1 d2 d3 d4 d5 d6 d7 x v1 v2 v3 v4 v5 v6 v7)
  (o3 : ∃ o s x, ops[3]? = some o ∧ o.guard = none ∧ o.op = .call { callee := .builtin .append, args := #[s, x], argTypes := #[23, 23] } ∧ (∀ v0 v1 v2 v3 v4 v5 v6 v7, (F8 a0 d0 d1 d2 d3 d4 d5 d6 d7 v0 v1 v2 v3 v4 v5 v6 v7).eval s = v0 ∧ (F8 a0 d0 d1 d2 d3 d4 d5 d6 d7 v0 v1 v2 v3 v4 v5 v6 v7).eval x = xa) ∧ ∀ x v0 v2 v3 v4 v5 v6 v7, (F8 a0 d0 d1 d2 d3 d4 d5 d6 d7 v0 undef v2 v3 v4 v5 v6 v7).put o.dst x = F8 a0 d0 d1 d2 d3 d4 d5 d6 d7 v0 x v2 v3 v4 v5 v6 v7)
  (o6 : ∃ o s x, ops[6]? = some o ∧ o.guard = none ∧ o.op = .call { callee := .builtin .append, args := #[s, x], argTypes := #[23, 23] } ∧ (∀ v0 v1 v2 v3 v4 v5 v6 v7, (F8 a0 d0 d1 d2 d3 d4 d5 d6 d7 v0 v1 v2 v3 v4 v5 v6 v7).eval s = v1 ∧ (F8 a0 d0 d1 d2 d3 d4 d5 d6 d7 v0 v1 v2 v3 v4 v5 v6 v7).eval x = xb) ∧ ∀ x v0 v1 v3 v4 v5 v6 v7, (F8 a0 d0 d1 d2 d3 d4 d5 d6 d7 v0 v1 undef v3 v4 v5 v6 v7).put o.dst x = F8 a0 d0 d1 d2 d3 d4 d5 d6 d7 v0 v1 x v3 v4 v5 v6 v7)
  (o7 : ∃ o, ops[7]? = some o ∧ o.guard = none ∧ o.op = Op.buildSlice 24 0 #[] ∧ ∀ x v0 v1 v2 v4 v5 v6 v7, (F8 a0 d0 d1 d2 d3 d4 d5 d6 d7 v0 v1 v2 undef v4 v5 v6 v7).put o.dst x = F8 a0 d0 d1 d2 d3 d4 d5 d6 d7 v0 v1 v2 x v4 v5 v6 v7)
  (o10 : ∃ o s x, ops[10]? = some o ∧ o.guard = none ∧ o.op = .call { callee := .builtin .append, args := #[s, x], argTypes := #[24, 24] } ∧ (∀ v0 v1 v2 v3 v4 v5 v6 v7, (F8 a0 d0 d1 d2 d3 d4 d5 d6 d7 v0 v1 v2 v3 v4 v5 v6 v7).eval s = v3 ∧ (F8 a0 d0 d1 d2 d3 d4 d5 d6 d7 v0 v1 v2 v3 v4 v5 v6 v7).eval x = ya) ∧ ∀ x v0 v1 v2 v3 v5 v6 v7, (F8 a0 d0 d1 d2 d3 d4 d5 d6 d7 v0 v1 v2 v3 undef v5 v6 v7).put o.dst x = F8 a0 d0 d1 d2 d3 d4 d5 d6 d7 v0 v1 v2 v3 x v5 v6 v7)
  (o13 : ∃ o s x, ops[13]? = some o ∧ o.guard = none ∧ o.op = .call { callee := .builtin .append, args := #[s, x], argTypes := #[24, 24] } ∧ (∀ v0 v1 v2 v3 v4 v5 v6 v7, (F8 a0 d0 d1 d2 d3 d4 d5 d6 d7 v0 v1 v2 v3 v4 v5 v6 v7).eval s = v4 ∧ (F8 a0 d0 d1 d2 d3 d4 d5 d6 d7 v0 v1 v2 v3 v4 v5 v6 v7).eval x = yb) ∧ ∀ x v0 v1 v2 v3 v4 v6 v7, (F8 a0 d0 d1 d2 d3 d4 d5 d6 d7 v0 v1 v2 v3 v4 undef v6 v7).put o.dst x = F8 a0 d0 d1 d2 d3 d4 d5 d6 d7 v0 v1 v2 v3 v4 x v6 v7)
  (o15 : ∃ o, ops[15]? = some o ∧ o.guard = none ∧ o.op = Op.alloc 26 ∧ ∀ x v0 v1 v2 v3 v4 v5 v7, (F8 a0 d0 d1 d2 d3 d4 d5 d6 d7 v0 v1 v2 v3 v4 v5 undef v7).put o.dst x = F8 a0 d0 d1 d2 d3 d4 d5 d6 d7 v0 v1 v2 v3 v4 v5 x v7)
  (o14 : ∃ o, ops[14]? = some o ∧ o.guard = none ∧ o.op = Op.build 26 #[(0, .tmp i5), (1, .tmp i6)] ∧ (∀ v0 v1 v2 v3 v4 v5 v6 v7, (F8 a0 d0 d1 d2 d3 d4 d5 d6 d7 v0 v1 v2 v3 v4 v5 v6 v7).tmps[i5]?.getD undef = v2 ∧ (F8 a0 d0 d1 d2 d3 d4 d5 d6 d7 v0 v1 v2 v3 v4 v5 v6 v7).tmps[i6]?.getD undef = v5) ∧ ∀ x v0 v1 v2 v3 v4 v5 v6, (F8 a0 d0 d1 d2 d3 d4 d5 d6 d7 v0 v1 v2 v3 v4 v5 v6 undef).put o.dst x = F8 a0 d0 d1 d2 d3 d4 d5 d6 d7 v0 v1 v2 v3 v4 v5 v6 x)
  (hS : ∀ w', Below W.heap.size W w' → S w')
  (hrest : ∀ w' v0 v1 v2 v3 v4 v5 v6 v7 ga gb gc a, SJ T W (F8 a0 d0 d1 d2 d3 d4 d5 d6 d7) (3, 3, 1, 1) a w' v0 v1 v2 v3 v4 v5 v6 v7 ga gb gc → wpAnyH Tryz.prog .any ops Q S 1 (Lj 255) a w') :
  wpAnyH Tryz.prog .any ops Q S 9 listed a0 W := regionJ hl T W (F8 a0 d0 d1 d2 d3 d4 d5 d6 d7) a0 hF hD hxa hxb hya hyb kxa kxb kya kyb hm1 hm2 o0 o3 o6 o7 o10 o13 o15 o14 hS hrest
end Go.Proofs.YtbnmmbjajheedaaGreatDoor
namespace Go.Proofs.YtbnmmbjajheedaaGreatDoor
set_option maxHeartbeats 64000000
set_option maxRecDepth 100000
open Go.RowKit Go.Lib
theorem pjoins_walk (s t : ByteArray) (w : World) (hS : SG w) (hE : EE w) (hV : Shs w) :
  Calls Tryz.prog 5 #[.string s, .string t] w fun e w' => e = .returned (.bool true) ∧ Below w.heap.size w w' := by
 have HSE := Hd (Ai hS (Ai hE hV))
 clear hS hE hV
 go_enter Tryz.func5, Tryz.ntmps5
 go_wp2_with fail
 refine (pawake_any w HSE.out.1 HSE.out.2.1 HSE.out.2.2).mono ?_
 rintro e w1 ⟨rfl, hb⟩
 have H1 := Hd (Ai hb (Ai (HSE.out.1.below hb) (Ai (HSE.out.2.1.below hb) (HSE.out.2.2.below hb))))
 clear hb HSE
 by_cases g1 : 1900 < s.size
 ·have f1 : decide ((1900 : Int) < (s.size : Int)) = true := decide_eq_true (by omega)
  go_wp2_with fail
  go_ret
  exact ⟨rfl, H1.out.1⟩
 have f1 : decide ((1900 : Int) < (s.size : Int)) = false := decide_eq_false (by omega)
 by_cases g2 : 1900 < t.size
 ·have f2 : decide ((1900 : Int) < (t.size : Int)) = true := decide_eq_true (by omega)
  go_wp2_with fail
  go_ret
  exact ⟨rfl, H1.out.1⟩
 have f2 : decide ((1900 : Int) < (t.size : Int)) = false := decide_eq_false (by omega)
 have hl3 : (s ++ ⟨#[10]⟩ ++ t).data.toList = s.data.toList ++ 10 :: t.data.toList := by rw [cat_list, cat_list]; simp
 have hz3 : (s ++ ⟨#[10]⟩ ++ t).size ≤ 100000 := by rw [size_eq, hl3, List.length_append, List.length_cons, ← size_eq, ← size_eq]; omega
 have hJ := jn_of s.data.toList t.data.toList (by rw [← size_eq, ← size_eq]; omega) (by rw [← size_eq]; omega)
 rw [← hl3] at hJ
 have HJ := Hd hJ
 have HZ := Hd hz3
 have HP1 := Hd (parsed_any s (by omega) w1 H1.out.2.1 H1.out.2.2.1 H1.out.2.2.2)
 clear hl3 hz3 hJ
 go_wp2_with fail
 clear f1 f2
 refine HP1.out.mono ?_
 rintro e w2 ⟨hv1, hb2⟩
 obtain ⟨a1, n1, c1, b1, m1, d1, e1, l1, rfl, hv9⟩ := hv1.shape
 clear hv1
 have hv1 := hv9
 clear hv9
 have hx := (Below.refl w2.heap.size w2).alloc Nr (.cells #[.slice a1 n1 c1, .slice b1 m1 d1] 26)
 have hB1 := BoxW.alloc w2 #[.slice a1 n1 c1, .slice b1 m1 d1] 26
 have H2 := Hd (Ai hv1 (Ai (onB' H1.out.1 (onB' hb2 hx)) (Ai hx hB1)))
 have H2e := Hd (Ai (H1.out.2.1.below (onB' hb2 hx)) (Ai (H1.out.2.2.1.below (onB' hb2 hx)) (H1.out.2.2.2.below (onB' hb2 hx))))
 clear hv1 hx hB1 HP1 hb2
 have hsz1 : w2.heap.size + 1 ≤ (w2.alloc (.cells #[.slice a1 n1 c1, .slice b1 m1 d1] 26)).heap.size := by simp
 go_upto_region 6 with fail
 generalize (w2.alloc (.cells #[.slice a1 n1 c1, .slice b1 m1 d1] 26)) = W2 at *
 have HP2 := Hd (parsed_any t (by omega) W2 H2e.out.1 H2e.out.2.1 H2e.out.2.2)
 go_wp2_with fail
 refine HP2.out.mono ?_
 rintro e w3 ⟨hv1, hb2⟩
 obtain ⟨a2, n2, c2, b2, m2, d2, e2, l2, rfl, hv9⟩ := hv1.shape
 clear hv1
 have hv1 := hv9
 clear hv9
 have hx := (Below.refl w3.heap.size w3).alloc Nr (.cells #[.slice a2 n2 c2, .slice b2 m2 d2] 26)
 have hB1 := BoxW.alloc w3 #[.slice a2 n2 c2, .slice b2 m2 d2] 26
 have HX2 := Hd (onB' hb2 hx)
 have H3 := Hd (Ai hv1 (Ai (onB' H2.out.2.1 HX2.out) (Ai hx hB1)))
 have H3e := Hd (Ai (H2e.out.1.below HX2.out) (Ai (H2e.out.2.1.below HX2.out) (H2e.out.2.2.below HX2.out)))
 clear hv1 hx hB1 HP2 hb2
 have hsz2 : w3.heap.size + 1 ≤ (w3.alloc (.cells #[.slice a2 n2 c2, .slice b2 m2 d2] 26)).heap.size := by simp
 go_upto_region 7 with fail
 generalize (w3.alloc (.cells #[.slice a2 n2 c2, .slice b2 m2 d2] 26)) = W3 at *
 have HP3 := Hd (parsed_any (s ++ ⟨#[10]⟩ ++ t) HZ.out W3 H3e.out.1 H3e.out.2.1 H3e.out.2.2)
 go_wp2_with fail
 refine HP3.out.mono ?_
 rintro e w4 ⟨hv1, hb2⟩
 obtain ⟨a3, n3, c3, b3, m3, d3, e3, l3, rfl, hv9⟩ := hv1.shape
 clear hv1
 have hv1 := hv9
 clear hv9
 have hx := (Below.refl w4.heap.size w4).alloc Nr (.cells #[.slice a3 n3 c3, .slice b3 m3 d3] 26)
 have hB1 := BoxW.alloc w4 #[.slice a3 n3 c3, .slice b3 m3 d3] 26
 have HX3 := Hd (onB' hb2 hx)
 have H4 := Hd (Ai hv1 (Ai (onB' H3.out.2.1 HX3.out) (Ai hx hB1)))
 have H4e := Hd (Ai (H3e.out.1.below HX3.out) (Ai (H3e.out.2.1.below HX3.out) (H3e.out.2.2.below HX3.out)))
 clear hv1 hx hB1 HP3 hb2
 have hsz3 : w4.heap.size + 1 ≤ (w4.alloc (.cells #[.slice a3 n3 c3, .slice b3 m3 d3] 26)).heap.size := by simp
 go_upto_region 8 with fail
 generalize (w4.alloc (.cells #[.slice a3 n3 c3, .slice b3 m3 d3] 26)) = W4 at *
 go_wp2_with fail
 go_loop [14, 15] (fun s14 s15 => ∃ k : Nat, k ≤ s.size ∧ s14 = .int .i64 (((s.data.toList.take k).count 10 : Nat) + 1) ∧ s15 = .int .i64 k) (fun _ s15 => s.size - (RowKit.intOf s15).toNat)
 case atStart => exact ⟨0, Nat.zero_le _, rfl, rfl⟩
 case round =>
  obtain ⟨k, hk, rfl, rfl⟩ := hrel
  have hcl : (s.data.toList.take k).count 10 ≤ k := Nt List.count_le_length (List.length_take_le _ _)
  by_cases hlt : k < s.size
  ·have hlt' : (k : Int) < (s.size : Int) := by omega
   have hcs := count_pj s k hlt
   have hix := fun W => letter_at s k hlt W
   have ek : IntKind.i64.wrap ((k : Int) + 1) = (k : Int) + 1 := by rw [IntKind.wrap_i64]; omega
   rcases ten_pj (s.data.toList.getD k 0) with ⟨h10, e10⟩ | ⟨h10, e10⟩
   ·rw [if_pos e10] at hcs
    have HCS := Hd hcs
    generalize s.data.toList.getD k 0 = c at *
    generalize (s.data.toList.take k).count 10 = q at *
    have eq1 : IntKind.i64.wrap (((q : Nat) : Int) + 1 + 1) = (q : Int) + 1 + 1 := by rw [IntKind.wrap_i64]; omega
    clear hcs e10
    go_wp2_with fail
    exact ⟨⟨k + 1, by omega, by rw [HCS.out]; go_num, by go_num⟩, by simp [RowKit.intOf]; omega⟩
   ·rw [if_neg e10] at hcs
    have HCS := Hd hcs
    generalize s.data.toList.getD k 0 = c at *
    generalize (s.data.toList.take k).count 10 = q at *
    clear hcs e10
    go_wp2_with fail
    exact ⟨⟨k + 1, by omega, by rw [HCS.out]; go_num, by go_num⟩, by simp [RowKit.intOf]; omega⟩
  ·obtain rfl : k = s.size := by omega
   have hall : (s.data.toList.take s.size).count 10 = s.data.toList.count 10 := by rw [List.take_of_length_le (by rw [← size_eq]; exact Nat.le_refl _)]
   rw [hall] at hcl ⊢
   clear hall
   generalize s.data.toList.count 10 = L at *
   rcases HJ.out with ⟨e, ln, o1, hd⟩ | ⟨m, l, r, f, on, o1, o2, hb1, hb2, line, o3, hl⟩ | ⟨m, l, r, n, l', r', l'', r'', o1, o2, o3, k1, k2⟩
   ·have h2 := H2.out.1
    rw [o1] at h2
    rcases h2 with ⟨q, h0⟩ | ⟨_, _, _, _, q, -⟩
    ·cases q
     have u1 : (e1 != 0) = true := by simpa using h0
     by_cases g17 : e1 = 17
     ·have u2 : (e1 == 17) = true := by simpa using g17
      clear h0 g17
      go_wp2_with fail
      go_ret
      exact ⟨rfl, H4.out.2.1⟩
     ·have u2 : (e1 == 17) = false := by simpa using g17
      have HL := Hd (lex_any t (by omega) W4 H4e.out.1 H4e.out.2.1)
      rcases hd with h | ⟨e2', k2', e3', l3', hR, h0', o3, h3⟩ | ⟨B, hR, o3⟩
      ·exact absurd h g17
      ·have h4 := H4.out.1
       rw [o3] at h4
       rcases h4 with ⟨q, -⟩ | ⟨_, _, _, _, q, -⟩
       ·cases q
        have u3 : (e3 != 0) = true := by simpa using h3
        have HR := Hd (Ai hR h0')
        clear h0 g17 h3 hR h0' o1 o3
        go_wp2_with fail
        refine HL.out.mono ?_
        intro e w5 h5
        obtain ⟨T, a5, c5, er, li, rfl, -, hb5, hv5⟩ := h5.view
        have H5 := Hd (onB' H4.out.2.1 hb5)
        rcases hv5 with ⟨hR2, rfl, rfl⟩ | ⟨hR2, rfl⟩
        ·rw [HR.out.1] at hR2; cases hR2
        ·rw [HR.out.1] at hR2
         cases hR2
         have u4 : (e2' != 0) = true := by simpa using HR.out.2
         clear h5 hb5 HL
         go_wp2_with fail
         go_ret
         exact ⟨rfl, H5.out⟩
       ·cases q
      ·have h4 := H4.out.1
       rw [o3] at h4
       rcases h4 with ⟨q, -⟩ | ⟨_, _, _, _, q, -⟩
       ·cases q
        have HR := Hd hR
        clear h0 g17 hR o1 o3
        go_wp2_with fail
        refine HL.out.mono ?_
        intro e w5 h5
        obtain ⟨T, a5, c5, er, li, rfl, -, hb5, hv5⟩ := h5.view
        have H5 := Hd (onB' H4.out.2.1 hb5)
        rcases hv5 with ⟨hR2, rfl, rfl⟩ | ⟨hR2, rfl⟩
        ·clear h5 hb5 HL hR2
         go_wp2_with fail
         go_ret
         exact ⟨by simp, H5.out⟩
        ·rw [HR.out] at hR2; cases hR2
       ·cases q
    ·cases q
   ·have h2 := H2.out.1
    rw [o1] at h2
    rcases h2 with ⟨q, -⟩ | ⟨md, l0, r0, xb, q, rfl, -⟩
    ·cases q
    have h3 := H3.out.1
    rw [o2] at h3
    rcases h3 with ⟨q, h0⟩ | ⟨_, _, _, _, q, -⟩
    ·cases q
     have h4 := H4.out.1
     rw [o3] at h4
     rcases h4 with ⟨q, -⟩ | ⟨_, _, _, _, q, -⟩
     ·cases q
      have u1 : (e2 != 0) = true := by simpa using h0
      have ew : IntKind.i64.wrap (l2 + ((L : Int) + 1)) = l2 + ((L : Int) + 1) := by rw [IntKind.wrap_i64]; omega
      clear h0 o1 o2 o3 hb1 hb2
      by_cases g17 : e2 = 17
      ·have u2 : (e2 == 17) = true := by simpa using g17
       by_cases gl : l3 = l2 + ((L : Int) + 1)
       ·have u3 : (l3 == l2 + ((L : Int) + 1)) = true := by simpa using gl
        clear hl
        go_wp2_with fail
        refine bodyPost_ret (v := .bool true) (by simp [results, Tryz.results5, go_sem]) rfl ?_
        exact ⟨rfl, H4.out.2.1⟩
       ·have u3 : (l3 == l2 + ((L : Int) + 1)) = false := by simpa using gl
        clear hl
        go_wp2_with fail
        refine bodyPost_ret (v := .bool true) (by simp [results, Tryz.results5, go_sem]) rfl ?_
        exact ⟨rfl, H4.out.2.1⟩
      ·have gl : l3 = l2 + ((L : Int) + 1) := hl.resolve_right g17
       have u3 : (l3 == l2 + ((L : Int) + 1)) = true := by simpa using gl
       clear hl
       go_wp2_with fail
       refine bodyPost_ret (v := .bool true) (by simp [results, Tryz.results5, go_sem]) rfl ?_
       exact ⟨rfl, H4.out.2.1⟩
     ·cases q
    ·cases q
   ·have h2 := H2.out.1
    rw [o1] at h2
    rcases h2 with ⟨q, -⟩ | ⟨md, l0, r0, xb, q, rfl, rfl, rfl, hc2, hb2, ht2⟩
    ·cases q
    cases q
    have h3 := H3.out.1
    rw [o2] at h3
    rcases h3 with ⟨q, -⟩ | ⟨md, l0, r0, yb, q, rfl, rfl, rfl, hc3, hb3, ht3⟩
    ·cases q
    cases q
    have h4 := H4.out.1
    rw [o3] at h4
    rcases h4 with ⟨q, -⟩ | ⟨md, l0, r0, zb, q, rfl, hq1, hq2, hc4, hb4, ht4⟩
    ·cases q
    cases q
    have hX3 := HX3.out
    have hX2 := onB' HX2.out hX3
    have hX1 := onB' H2.out.2.2.1 hX2
    have hY2 := onB' H3.out.2.2.1 hX3
    have hA := H2.out.2.2.2.below hX2
    have hB := H3.out.2.2.2.below hX3
    have hC := H4.out.2.2.2
    have j0 := hA.1 0 _ rfl
    have j1 := hA.1 1 _ rfl
    have p0 := hB.1 0 _ rfl
    have p1 := hB.1 1 _ rfl
    have HO := Hd (Ai (own_below hc2 hX1) (Ai (own_below hb2 hX1) (Ai (own_below hc3 hY2) (own_below hb3 hY2))))
    have HT := Hd (Ai (ht2.move (K' := fun g => w1.heap.size ≤ g) fun g hk lt => ⟨hk, hX1.block g lt⟩) (Ai (ht3.move (K' := fun g => W2.heap.size ≤ g) fun g hk lt => ⟨hk, hY2.block g lt⟩) (Ai hc4 (Ai hb4 (Ai ht4 H4.out.2.2.1)))))
    have HC := Hd (Ai hC H4.out.2.1)
    clear hX1 hX2 hX3 hY2 hA hB hC hc2 hb2 ht2 hc3 hb3 ht3 hc4 hb4 ht4
    have HM := Hd (show (m.1.length + n.1.length ≤ 100000 ∧ m.2.length + n.2.length ≤ 100000) ∧ n3 = m.1.length + n.1.length ∧ m3 = m.2.length + n.2.length from ⟨by omega, by rw [hq1]; exact List.length_append, by rw [hq2]; exact List.length_append⟩)
    clear HJ HZ H1 H2 H2e H3 H3e H4e HX2 HX3 o1 o2 o3 k1 k2 hq1 hq2 hk hlt hcl g1 g2
    have HT1 := Hd HT.out.1.one
    have HT2 := Hd HT.out.2.1.one
    go_upto_region 23 with fail
    have HSp := Hd (show ∀ w', Below W4.heap.size W4 w' → (w'.cell? ⟨w2.heap.size, 0, none⟩ = some (.slice a1 m.1.length c1) ∧ w'.cell? ⟨w2.heap.size, 1, none⟩ = some (.slice b1 m.2.length d1) ∧ w'.cell? ⟨w3.heap.size, 0, none⟩ = some (.slice a2 n.1.length c2) ∧ w'.cell? ⟨w3.heap.size, 1, none⟩ = some (.slice b2 n.2.length d2)) from fun w' hb => ⟨later' hb j0, later' hb j1, later' hb p0, later' hb p1⟩)
    have hdr : Below W4.heap.size W4 W4.drew := (Below.refl W4.heap.size W4).drew
    refine wp_region_held_drew (S := fun w' => w'.cell? ⟨w2.heap.size, 0, none⟩ = some (.slice a1 m.1.length c1) ∧ w'.cell? ⟨w2.heap.size, 1, none⟩ = some (.slice b1 m.2.length d1) ∧ w'.cell? ⟨w3.heap.size, 0, none⟩ = some (.slice a2 n.1.length c2) ∧ w'.cell? ⟨w3.heap.size, 1, none⟩ = some (.slice b2 n.2.length d2)) (by kernel_rfl) (HSp.out _ hdr) (fun hHeld => ?_)
    refine wpAnyH_take (i := 1) (oi := _) (v := ?_) rfl (by kernel_rfl) (by kernel_rfl) (by kernel_rfl) (fun _ _ _ h => h) (Or.inl ⟨by rfl, ?_⟩) (by assumption) ?_
    rotate_left
    ·intro w hSw
     try dsimp only at hSw
     go_simp <;> with_reducible rfl
    try simp only [Act.put, List.setIfInBounds_toArray]
    refine wpAnyH_take (i := 2) (oi := _) (v := ?_) rfl (by kernel_rfl) (by kernel_rfl) (by kernel_rfl) (fun _ _ _ h => h) (Or.inl ⟨by rfl, ?_⟩) (by assumption) ?_
    rotate_left
    ·intro w hSw
     try dsimp only at hSw
     go_simp <;> with_reducible rfl
    try simp only [Act.put]
    refine wpAnyH_take (i := 4) (oi := _) (v := ?_) rfl (by kernel_rfl) (by kernel_rfl) (by kernel_rfl) (fun _ _ _ h => h) (Or.inl ⟨by rfl, ?_⟩) (by assumption) ?_
    rotate_left
    ·intro w hSw
     try dsimp only at hSw
     go_simp <;> with_reducible rfl
    try simp only [Act.put]
    refine wpAnyH_take (i := 5) (oi := _) (v := ?_) rfl (by kernel_rfl) (by kernel_rfl) (by kernel_rfl) (fun _ _ _ h => h) (Or.inl ⟨by rfl, ?_⟩) (by assumption) ?_
    rotate_left
    ·intro w hSw
     try dsimp only at hSw
     go_simp <;> with_reducible rfl
    try simp only [Act.put]
    refine wpAnyH_take (i := 8) (oi := _) (v := ?_) rfl (by kernel_rfl) (by kernel_rfl) (by kernel_rfl) (fun _ _ _ h => h) (Or.inl ⟨by rfl, ?_⟩) (by assumption) ?_
    rotate_left
    ·intro w hSw
     try dsimp only at hSw
     go_simp <;> with_reducible rfl
    try simp only [Act.put]
    refine wpAnyH_take (i := 9) (oi := _) (v := ?_) rfl (by kernel_rfl) (by kernel_rfl) (by kernel_rfl) (fun _ _ _ h => h) (Or.inl ⟨by rfl, ?_⟩) (by assumption) ?_
    rotate_left
    ·intro w hSw
     try dsimp only at hSw
     go_simp <;> with_reducible rfl
    try simp only [Act.put]
    refine wpAnyH_take (i := 11) (oi := _) (v := ?_) rfl (by kernel_rfl) (by kernel_rfl) (by kernel_rfl) (fun _ _ _ h => h) (Or.inl ⟨by rfl, ?_⟩) (by assumption) ?_
    rotate_left
    ·intro w hSw
     try dsimp only at hSw
     go_simp <;> with_reducible rfl
    try simp only [Act.put]
    refine wpAnyH_take (i := 12) (oi := _) (v := ?_) rfl (by kernel_rfl) (by kernel_rfl) (by kernel_rfl) (fun _ _ _ h => h) (Or.inl ⟨by rfl, ?_⟩) (by assumption) ?_
    rotate_left
    ·intro w hSw
     try dsimp only at hSw
     go_simp <;> with_reducible rfl
    try simp only [Act.put]
    clear hHeld
    have HD := Hd hdr
    refine regionJ8 (by kernel_rfl) ⟨m.1.length, n.1.length, declV m.1, declV n.1, m.2.length, n.2.length, xb, yb⟩ W4.drew _ 105 108 111 112 115 118 19 119 (by kernel_rfl) (by kernel_rfl) (xa := .slice a1 m.1.length c1) (xb := .slice a2 n.1.length c2) (ya := .slice b1 m.2.length d1) (yb := .slice b2 n.2.length d2)
     (own_below HO.out.1 HD.out) (own_below HO.out.2.2.1 HD.out) (own_below HO.out.2.1 HD.out) (own_below HO.out.2.2.2 HD.out) (declV_one m.1) (declV_one n.1) HT1.out HT2.out HM.out.1.1 HM.out.1.2
     ⟨_, rfl, by kernel_rfl, rfl, fun _ _ _ _ _ _ _ _ => by kernel_rfl⟩
     ⟨_, .tmp 105, .tmp 107, rfl, by kernel_rfl, rfl, fun _ _ _ _ _ _ _ _ => ⟨by kernel_rfl, by kernel_rfl⟩, fun _ _ _ _ _ _ _ _ => by kernel_rfl⟩
     ⟨_, .tmp 108, .tmp 110, rfl, by kernel_rfl, rfl, fun _ _ _ _ _ _ _ _ => ⟨by kernel_rfl, by kernel_rfl⟩, fun _ _ _ _ _ _ _ _ => by kernel_rfl⟩
     ⟨_, rfl, by kernel_rfl, rfl, fun _ _ _ _ _ _ _ _ => by kernel_rfl⟩
     ⟨_, .tmp 112, .tmp 114, rfl, by kernel_rfl, rfl, fun _ _ _ _ _ _ _ _ => ⟨by kernel_rfl, by kernel_rfl⟩, fun _ _ _ _ _ _ _ _ => by kernel_rfl⟩
     ⟨_, .tmp 115, .tmp 117, rfl, by kernel_rfl, rfl, fun _ _ _ _ _ _ _ _ => ⟨by kernel_rfl, by kernel_rfl⟩, fun _ _ _ _ _ _ _ _ => by kernel_rfl⟩
     ⟨_, rfl, by kernel_rfl, rfl, fun _ _ _ _ _ _ _ _ => by kernel_rfl⟩
     ⟨_, rfl, by kernel_rfl, rfl, fun _ _ _ _ _ _ _ _ => ⟨by kernel_rfl, by kernel_rfl⟩, fun _ _ _ _ _ _ _ _ => by kernel_rfl⟩
     (fun w' hb => HSp.out _ (onB' HD.out hb)) ?_
    intro w5 v0 v1 v2 v3 v4 v5 v6 v7 ga gb gc a' hst
    obtain ⟨rfl, hB5, RA, RB, RC, RD, -, hac, hbc⟩ := hst
    have r1 : Rw W4.drew w5 67 2 (0 + m.1.length + n.1.length) v2 ([] ++ declV m.1 ++ declV n.1) ga := RA
    have r2 : Rw W4.drew w5 51 10 (0 + m.2.length + n.2.length) v5 ([] ++ xb ++ yb) gb := RB
    obtain ⟨rfl, hbx, hgl, -⟩ : v6 = .pointer (some ⟨gc, 0, none⟩) ∧ BoxW w5 gc [.slice none 0 0, .slice none 0 0] ∧ W4.drew.heap.size ≤ gc ∧ gc < w5.heap.size := RC
    obtain rfl : v7 = .agg #[v2, v5] := by
     rcases RD with ⟨h, -⟩ | ⟨-, -, -, h⟩
     ·exact absurd h (by decide)
     ·exact h
    clear RA RB RD
    obtain ⟨a6, c6, rfl⟩ := r1.sl
    obtain ⟨a7, c7, rfl⟩ := r2.sl
    have x0 : w5.cell? ⟨gc, 0, none⟩ = some _ := hbx.1 0 _ rfl
    have x1 : w5.cell? ⟨gc, 1, none⟩ = some _ := hbx.1 1 _ rfl
    have z0 := hbx.2 0
    have z1 := hbx.2 1
    have hne1 : ga ≠ gc := hac (by decide) (by decide)
    have hne2 : gb ≠ gc := hbc (by decide) (by decide)
    have H5z := Hd (Ai r1 (Ai r2 (Ai hbx (Ai hgl (Ai (onB' HD.out hB5) (Ai hne1 hne2))))))
    clear r1 r2 hbx hgl hB5 hdr hac hbc hne1 hne2
    simp only [F8, Act.put]
    refine wpAnyH_ready (rs := [16]) (by kernel_rfl) (by simp) ?_
    refine AllReadyH.cons (o := _) rfl (fun K hK => ?_) AllReadyH.nil
    go_simp
    have hB6 : Below W4.heap.size W4 ((w5.setCell ⟨gc, 0, none⟩ (.slice a6 (m.1.length + n.1.length) c6)).setCell ⟨gc, 1, none⟩ (.slice a7 (m.2.length + n.2.length) c7)) := below_new (below_new H5z.out.2.2.2.2.1 _ _ _ H5z.out.2.2.2.1) _ _ _ H5z.out.2.2.2.1
    have hbx : BoxW ((w5.setCell ⟨gc, 0, none⟩ (.slice a6 (m.1.length + n.1.length) c6)).setCell ⟨gc, 1, none⟩ (.slice a7 (m.2.length + n.2.length) c7)) gc [.slice a6 (m.1.length + n.1.length) c6, .slice a7 (m.2.length + n.2.length) c7] := (H5z.out.2.2.1.set 0 (show 0 < 2 by decide) _).set 1 (show 1 < 2 by decide) _
    have r1 := (H5z.out.1.keep (set_grown _ gc 0 (.slice a6 (m.1.length + n.1.length) c6)) H5z.out.2.2.2.2.2.1).keep (set_grown _ gc 1 (.slice a7 (m.2.length + n.2.length) c7)) H5z.out.2.2.2.2.2.1
    have r2 := (H5z.out.2.1.keep (set_grown _ gc 0 (.slice a6 (m.1.length + n.1.length) c6)) H5z.out.2.2.2.2.2.2).keep (set_grown _ gc 1 (.slice a7 (m.2.length + n.2.length) c7)) H5z.out.2.2.2.2.2.2
    have HS6 := Hd (HSp.out _ hB6)
    have HB6 := Hd hB6
    have HBX := Hd hbx
    have HR1 := Hd r1.own
    have HR2 := Hd r2.own
    clear hB6 hbx r1 r2 H5z
    refine hK.out _ _ HS6.out (fun hHeld2 => ?_)
    clear hK K hHeld2 HS6
    refine wpAnyH_done (by kernel_rfl) ?_ _
    generalize ((w5.setCell ⟨gc, 0, none⟩ (.slice a6 (m.1.length + n.1.length) c6)).setCell ⟨gc, 1, none⟩ (.slice a7 (m.2.length + n.2.length) c7)) = W6 at *
    have hqd : W6.ownsRow W4.drew.heap.size 67 2 (.slice a6 (m.1.length + n.1.length) c6) (m.1 ++ n.1).length (declV (m.1 ++ n.1)) := by
     have h := HR1.out
     simp only [Nat.zero_add, List.nil_append] at h
     rw [List.length_append, declV_app]
     exact h
    have hqb : W6.ownsRow W4.drew.heap.size 51 10 (.slice a7 (m.2.length + n.2.length) c7) (m.2 ++ n.2).length (xb ++ yb) := by
     have h := HR2.out
     simp only [Nat.zero_add, List.nil_append] at h
     rw [List.length_append]
     exact h
    have hX6 := onB' HT.out.2.2.2.2.2 HB6.out
    have hpd : W6.ownsRow W3.heap.size 67 2 (.slice a3 n3 c3) (m.1 ++ n.1).length (declV (m.1 ++ n.1)) := by
     rw [List.length_append, ← HM.out.2.1]
     exact own_below HT.out.2.2.1 hX6
    have hpb : W6.ownsRow W3.heap.size 51 10 (.slice b3 m3 d3) (m.2 ++ n.2).length zb := by
     rw [List.length_append, ← HM.out.2.2]
     exact own_below HT.out.2.2.2.1 hX6
    have hpt : BndsAt W6 (fun _ => True) (m.2 ++ n.2) zb := HT.out.2.2.2.2.1.move fun g _ lt => ⟨trivial, hX6.block g lt⟩
    have hqt : BndsAt W6 (fun _ => True) (m.2 ++ n.2) (xb ++ yb) := (HT.out.1.move (K' := fun _ => True) fun g _ lt => ⟨trivial, HB6.out.block g lt⟩).append (HT.out.2.1.move (K' := fun _ => True) fun g _ lt => ⟨trivial, HB6.out.block g lt⟩)
    have HS := Hd (same_any (m.1 ++ n.1) (m.2 ++ n.2) W6 _ _ _ _ _ _ _ _ _ _ hpd hpb hpt hqd hqb hqt)
    have hbB := HC.out.1.below HB6.out
    have t0 := hbB.1 0 _ rfl
    have t1 := hbB.1 1 _ rfl
    have y0 := HBX.out.1 0 _ rfl
    have y1 := HBX.out.1 1 _ rfl
    have HE := Hd (onB' HC.out.2 HB6.out)
    clear hqd hqb hpd hpb hpt hqt hbB hX6 x0 x1 z0 z1 j0 j1 p0 p1 HR1 HR2 HBX HSp
    go_wp2_with fail
    refine HS.out.mono ?_
    rintro e w7 ⟨rfl, hb7⟩
    have HE7 := Hd (onB' HE.out hb7)
    clear hb7
    go_wp2_with fail
    go_ret
    exact ⟨rfl, HE7.out⟩
end Go.Proofs.YtbnmmbjajheedaaGreatDoor
