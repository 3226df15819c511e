import Derived.Test.YthehgcmhcioffaaGreatDoorRows
import Derived.Lib.ParseIntB
import Derived.Lib.AtoiAll
import Derived.Lib.ItoaNum
import Derived.Lib.ParseIntBTie
import Derived.Lib.ParseIntBCases
import Derived.Shelf.Strings.Builder1
import Derived.Shelf.Strings.Builder2
import Derived.Shelf.Strings.OnBuilder
import Derived.Shelf.Strings.Trim
import Derived.Shelf.Small.Utf8
import Derived.Shelf.Small.Strs
import Derived.Shelf.Small.Wraps
import Derived.Shelf.Strings.BuilderF
import Derived.Shelf.Strings.BuilderK
import Derived.Shelf.Strings.Builder2Cap
import Derived.Shelf.Strconv.Itoa0
import Derived.Shelf.Strconv.Itoa1
import Derived.Shelf.LaysM
import Derived.Shelf.Strconv.Itoa2
import Derived.Shelf.Strconv.Itoa3
import Derived.Shelf.Strconv.Itoa4
import Derived.Shelf.Strconv.ParseIntEmpty
import Derived.Shelf.Strconv.Clone
import Derived.Shelf.Strconv.SyntaxError
import Derived.Shelf.LaysC
import Derived.Shelf.Strconv.ToError
import Derived.Shelf.Strconv.Lower
import Derived.Shelf.Strconv.ParseUint10
import Derived.Shelf.Strconv.ParseUint10Empty
import Derived.Shelf.Strconv.ParseUint10Any
import Derived.Shelf.Strconv.ParseInt10
import Derived.Shelf.Strconv.RangeError
import Derived.Shelf.Strconv.ToErrorRange
import Derived.Shelf.Strconv.ParseUintEmpty
import Derived.Shelf.Strconv.ParseUint10b64
import Derived.Shelf.Strconv.ParseUint10b32
import Derived.Shelf.Strconv.ParseUint10b16
import Derived.Shelf.Strconv.ParseUint10b8
import Derived.Shelf.Strconv.ParseUint10At
import Derived.Shelf.Strconv.ParseInt10At64
import Derived.Shelf.Strconv.ParseInt10At32
import Derived.Shelf.Strconv.ParseInt10At16
import Derived.Shelf.Strconv.ParseInt10At8
import Derived.Shelf.Strconv.ParseInt10All
import Derived.Shelf.Strconv.ParseIntPublic10
import Derived.Shelf.Strings.Search1
import Derived.Shelf.Strings.Prefix
import Derived.Shelf.Unicode.Decode
import Derived.Shelf.Strings.Runes
import Derived.Shelf.Strings.AsciiSet
import Derived.Shelf.Bits.Mul64
import Derived.Shelf.Strings.Repeat
import Derived.Shelf.Unicode.DecodeSlow
import Derived.Shelf.Unicode.DecodeAny
import Derived.Shelf.Strings.BuilderCap
import Derived.WalkKit
import Derived.WalkSpells
import Derived.WalkLawsBesides
import Derived.Deep.RegionHeld3
import Derived.Deep.DeepCutAuto
import Derived.KernelRfl
import Derived.Lib.Hide
import Derived.Lib.ItoaWalk
import Derived.Lib.LaidTab
import Derived.Stop.LaidErr
import Derived.Laws.Strings3
import Derived.Maps.OwnSet
import Derived.Maps.OwnOps
import Derived.Maps.Views
import Derived.Deep.AppendLies
import Derived.Laws.EntriesVeiled
import Derived.OpenShut
import Derived.ProofKit
import Derived.RegionTactic
import Derived.BigRegion
import Derived.Lib.ConvBytes
import Derived.Lib.AtoiAllMem
import Derived.Laws.Closers25
import Derived.Laws.Closers25b
import Derived.Shelf.Strings.SlTrimAscii
import Derived.Laws.StructEq
import Derived.Deep.MidRow
import Derived.WalkMore
import Derived.Deep.QuietTactic
import Derived.BigQuiet
import Derived.Lib.ItoaLen
import Derived.Laws.DeepStrings4
import Derived.Shelf.Abstract
import Derived.RegionDies
import Derived.Deep.RegionHeldLaw
import Derived.Lib.QuietBelow
import Derived.Laws.OwnMore
import Derived.Sort.Grow
import Derived.Shelf.SlMaps.Clone
import Derived.LaidEql
import Derived.Stop.Asserts
import Derived.RowKitTokens
import Derived.StillTailTactics
import Derived.Deep.RegionHeld
import Derived.Defers
import Derived.Recover
import Derived.Laws.ResultCell
import Derived.ChangeMaps5
import Derived.LaidMore
import Derived.Lay
import Derived.SevenTiedAt
import Derived.Test.YthehgcmhcioffaaGreatDoorMg21
namespace Go.Proofs.YthehgcmhcioffaaGreatDoor
set_option maxHeartbeats 64000000
set_option maxRecDepth 100000
open Go.RowKit Go.Lib
def Told2 (lo : Nat) (o : Out Md) (e : Ending) (w' : World) : Prop :=
  match o with
  | .ok md _ _ => ∃ ad cd ab cb, e = .returned (.tuple #[.agg #[.slice ad md.1.length cd, .slice ab md.2.length cb], .int .i64 0, .int .i64 0]) ∧ ModAt w' (fun g => lo ≤ g) md ad cd ab cb
  | .bad er ln => er ≠ 0 ∧ e = .returned (.tuple #[.agg #[.slice none 0 0, .slice none 0 0], .int .i64 er, .int .i64 ln])
theorem told2_any (s : ByteArray) (hs : s.size ≤ 100000) (w : World) : Calls Tryz.prog 13 #[.string s] w fun e w' => Told2 w.heap.size (modL s.data.toList) e w' ∧ Below w.heap.size w w' := by
  refine (dparse_any s hs w).mono fun e w' hh => ⟨?_, hh.1⟩
  have h := doc_shape hh.2
  cases ho : modL s.data.toList with
  | bad er ln => rw [ho] at h; exact h
  | ok md a b =>
    rw [ho] at h
    obtain ⟨vd, vb, B, cs, rfl, hB, h1, h2, h3⟩ := h
    obtain ⟨ad, cd, rfl, -⟩ := own_shape h1
    obtain ⟨ab, cb, rfl, -⟩ := own_shape h2
    exact ⟨ad, cd, ab, cb, rfl, RowAt.of h1 (fun _ h => Nt hB h), cs, RowAt.of h2 (fun _ h => Nt hB h), h3.move fun g hk _ => ⟨Nt hB hk.1, rfl⟩⟩
def Told9 (o : Out Md) (e : Ending) (w' : World) : Prop :=
  match o with
  | .ok md _ _ => ∃ ad cd ab cb, e = .returned (.tuple #[.agg #[.slice ad md.1.length cd, .slice ab md.2.length cb], .bool true]) ∧ ModAt w' (fun _ => True) md ad cd ab cb
  | .bad _ _ => e = .returned (.tuple #[.agg #[.slice none 0 0, .slice none 0 0], .bool false])
theorem below_set {w W : World} {i : Nat} {v : Value} (h : Below w.heap.size w W) : Below w.heap.size w (W.setCell ⟨w.heap.size, i, none⟩ v) := h.setCell (by simp) v
theorem told9_any (s : ByteArray) (hs : s.size ≤ 100000) (w : World) : Calls Tryz.prog 7 #[.string s] w fun e w' => Told9 (modL s.data.toList) e w' ∧ Below w.heap.size w w' := by
  have hx := (Below.refl w.heap.size w).alloc Nr (.cells #[.slice none 0 0, .slice none 0 0] 26)
  have HX := Hd (Ai hx (BoxW.alloc w #[.slice none 0 0, .slice none 0 0] 26))
  have HT := Hd (told2_any s hs (w.alloc (.cells #[.slice none 0 0, .slice none 0 0] 26)))
  have hz : (w.alloc (.cells #[.slice none 0 0, .slice none 0 0] 26)).heap.size = w.heap.size + 1 := by simp
  have HZ := Hd hz
  clear hx hz
  go_enter Tryz.func7, Tryz.ntmps7
  go_wp2_with fail
  refine HT.out.mono ?_
  rintro e w2 ⟨ht, hb⟩
  have HB := Hd (Ai (onB' HX.out.1 hb) (Ai (HX.out.2.below hb) hb.size))
  clear hb HT HX
  have c0 : w2.cell? ⟨w.heap.size, 0, none⟩ = some (.slice none 0 0) := HB.out.2.1.1 0 _ rfl
  have c1 : w2.cell? ⟨w.heap.size, 1, none⟩ = some (.slice none 0 0) := HB.out.2.1.1 1 _ rfl
  have f0 := HB.out.2.1.2 0
  have f1 := HB.out.2.1.2 1
  have lt : w.heap.size < w2.heap.size := by have := HB.out.2.2; have := HZ.out; omega
  have ne : ¬ w2.heap.size = w.heap.size := by omega
  cases ho : modL s.data.toList with
  | bad er ln =>
    rw [ho] at ht
    obtain ⟨he, rfl⟩ := ht
    have HX := Hd ((Below.refl w2.heap.size w2).alloc Nr (.cells #[.slice none 0 0, .slice none 0 0] 26))
    have he2 : (er == 0) = false := by simpa using he
    have HM := Hd ho
    clear ho
    go_wp2_with fail
    refine bodyPost_ret (v := .tuple #[.agg #[.slice none 0 0, .slice none 0 0], .bool false]) (by rw [results_cell_tmp rfl]; go_simp) rfl ?_
    rw [HM.out]
    exact ⟨rfl, (below_set (below_set HB.out.1)).alloc (below_set (below_set HB.out.1)).size _⟩
  | ok md a b =>
    rw [ho] at ht
    obtain ⟨ad, cd, ab, cb, rfl, hm⟩ := ht
    have hx := (Below.refl w2.heap.size w2).alloc Nr (.cells #[.slice ad md.1.length cd, .slice ab md.2.length cb] 26)
    have HX := Hd (Ai hx hm)
    have HM := Hd ho
    clear ho hx hm
    go_wp2_with fail
    refine bodyPost_ret (v := .tuple #[.agg #[.slice ad md.1.length cd, .slice ab md.2.length cb], .bool true]) (by rw [results_cell_tmp rfl]; go_simp) rfl ?_
    rw [HM.out]
    have hb9 := below_set (i := 1) (v := .slice ab md.2.length cb) (below_set (i := 0) (v := .slice ad md.1.length cd) HB.out.1)
    have hmv : ∀ g, (w.alloc (.cells #[.slice none 0 0, .slice none 0 0] 26)).heap.size ≤ g → g < w2.heap.size → True ∧ (((w2.setCell ⟨w.heap.size, 0, none⟩ (.slice ad md.1.length cd)).setCell ⟨w.heap.size, 1, none⟩ (.slice ab md.2.length cb)).alloc (.cells #[.slice ad md.1.length cd, .slice ab md.2.length cb] 26)).heap[g]? = w2.heap[g]? := fun g h1 h2 => by
      rw [HZ.out] at h1
      exact ⟨trivial, ((Br.alloc Nr (.cells #[.slice ad md.1.length cd, .slice ab md.2.length cb] 26)).block g (by simpa using h2)).trans ((heap_setCell_other _ _ _ _ (by show g ≠ w.heap.size; omega)).trans (heap_setCell_other _ _ _ _ (by show g ≠ w.heap.size; omega)))⟩
    obtain ⟨h1, cs, h2, h3⟩ := HX.out.2
    exact ⟨⟨ad, cd, ab, cb, rfl, h1.move hmv, cs, h2.move hmv, h3.move hmv⟩, hb9.alloc hb9.size _⟩
def ex9B : ByteArray := ⟨#[102, 32, 120, 61, 99, 97, 115, 101, 32, 120, 32, 111, 102, 123, 48, 45, 62, 40, 49, 41, 59, 121, 45, 62, 102, 40, 121, 45, 49, 41, 125, 59]⟩
def ex9M : Md := ([], [([102], [[120]], .mk 7 [] false 0 [] [.leaf 1 [120]] [] [(1, [], false, 0, [], .num false 1), (2, [121], false, 0, [], .mk 4 [] false 0 [] [.leaf 1 [102], .mk 5 [45] false 0 [] [.leaf 1 [121], .num false 1] [] []] [] [])])])
theorem ex9_mod : modL ex9B.data.toList = .ok ex9M 1 [] := by kernel_rfl
def ex9T : ByteArray := ⟨"f x = case x of {0 -> 1; y -> f (y - 1)};\n".toUTF8.data⟩
end Go.Proofs.YthehgcmhcioffaaGreatDoor
namespace Go.Proofs.YthehgcmhcioffaaGreatDoor
set_option maxHeartbeats 64000000
set_option maxRecDepth 100000
open Go.RowKit Go.Lib
theorem smod_any (m : Md) (hs : ShOk m) (K : Nat → Prop) (ad : Option Addr) (cd : Nat) (ab : Option Addr) (cb : Nat) (w : World) (hp : PE w) (hm : ModAt w K m ad cd ab cb) :
    Calls Tryz.prog 10 #[.agg #[.slice ad m.1.length cd, .slice ab m.2.length cb]] w fun e w' => e = .returned (.string (tx (modT m))) ∧ Below w.heap.size w w' := by
  obtain ⟨h1, xb, h2, h3⟩ := hm
  have hx := hs.wx
  have hsum : ∀ (l : List (Nm × Int)), (∀ d, d ∈ l → (declT d).length ≤ 200000) → sumN (fun x : List UInt8 => x.length + 1) (l.map declT) ≤ 200001 * l.length := by
    intro l
    induction l with
    | nil => intro _; exact Nat.le_refl _
    | cons d r ih =>
      intro h
      have h4 := ih fun x hx => h x (List.mem_cons_of_mem _ hx)
      have h5 := h d (List.mem_cons_self ..)
      show ((declT d).length + 1) + sumN (fun x : List UInt8 => x.length + 1) (r.map declT) ≤ _
      simp only [List.length_cons]
      omega
  have h4 := hsum m.1 fun d hd => (hs.ar d hd).2
  exact smodule_any m hs.kb hs.wb (by omega) (fun d hd => ⟨(hs.ar d hd).1, Nt (hs.ar d hd).2 (by omega)⟩) (by omega) (by rw [words_len]; show 4 + _ ≤ _; omega) K ad cd ab cb xb w hp h1 h2 h3
theorem one_ok {m : Md} (hs : ShOk m) {j : Nat} (hj : j < m.2.length) : ShOk ([], [m.2[j]]) := by
  have hm := List.getElem_mem hj
  refine ⟨kfBs_of fun b hb => ?_, wb_of fun b hb => ?_, ?_, fun d hd => by cases hd⟩
  · rw [List.mem_singleton.1 hb]; exact kfBs_mem hs.kb _ hm
  · rw [List.mem_singleton.1 hb]; exact wfBs_mem hs.wb _ hm
  · have h1 : xB2 m.2[j] ≤ sumN xB2 m.2 := sumN_mem xB2 hm
    have h2 := hs.wx
    show 0 + (xB2 m.2[j] + 0) ≤ 4096
    omega
theorem one_text (b : Bnd) : modT ([], [b]) = lineL (bindT b) := by
  unfold modT headT linesT
  simp
theorem cons_text (ds : List (Nm × Int)) : modT (ds, []) = headT ds := by
  unfold modT linesT
  simp
theorem cons_ok {m : Md} (hs : ShOk m) : ShOk (m.1, []) := by
  refine ⟨kfBs_of fun b hb => (by cases hb), wb_of fun b hb => (by cases hb), ?_, hs.ar⟩
  have h2 := hs.wx
  show m.1.length + 0 ≤ 4096
  omega
theorem ex9_sh : ShOk ex9M := modL_sh (l := ex9B.data.toList) (by decide) ex9_mod
theorem ex9_text : tx (modT ex9M) = ⟨#[102, 32, 120, 32, 61, 32, 99, 97, 115, 101, 32, 120, 32, 111, 102, 32, 123, 48, 32, 45, 62, 32, 49, 59, 32, 121, 32, 45, 62, 32, 102, 32, 40, 121, 32, 45, 32, 49, 41, 125, 59, 10]⟩ := by kernel_rfl
theorem awake9_any (w : World) (hp : PE w) : Calls Tryz.prog 6 #[] w fun e w' => e = .returned (.bool true) ∧ Below w.heap.size w w' := by
  have HT := Hd (told9_any ex9B (by decide) w)
  have HP := Hd hp
  clear hp
  unfold ex9B at HT
  go_enter Tryz.func6, Tryz.ntmps6
  go_wp2_with fail
  refine HT.out.mono ?_
  rintro e w2 ⟨ht, hb⟩
  rw [show modL (⟨#[102, 32, 120, 61, 99, 97, 115, 101, 32, 120, 32, 111, 102, 123, 48, 45, 62, 40, 49, 41, 59, 121, 45, 62, 102, 40, 121, 45, 49, 41, 125, 59]⟩ : ByteArray).data.toList = .ok ex9M 1 [] from ex9_mod] at ht
  obtain ⟨ad, cd, ab, cb, rfl, hm⟩ := ht
  have hx := (Below.refl w2.heap.size w2).alloc Nr (.cells #[.slice ad ex9M.1.length cd, .slice ab ex9M.2.length cb] 26)
  have HM := Hd (smod_any ex9M ex9_sh _ ad cd ab cb _ ((HP.out.below hb).below hx) (hm.below hx))
  rw [ex9_text] at HM
  have HB := Hd (onB' hb hx)
  clear hx hm hb HT
  generalize ex9M.1.length = l1 at *
  generalize ex9M.2.length = l2 at *
  go_wp2_with fail
  refine HM.out.mono ?_
  rintro e w3 ⟨rfl, hb⟩
  have HB3 := Hd (onB' HB.out hb)
  clear hb HM
  go_wp2_with fail
  go_ret
  exact ⟨rfl, HB3.out⟩
end Go.Proofs.YthehgcmhcioffaaGreatDoor
namespace Go.Proofs.YthehgcmhcioffaaGreatDoor
set_option maxHeartbeats 64000000
set_option maxRecDepth 100000
open Go.RowKit Go.Lib
theorem headT_len {m : Md} (hs : ShOk m) : (headT m.1).length ≤ 20000000000 := by
  have hx := hs.wx
  have hsum : ∀ (l : List (Nm × Int)), (∀ d, d ∈ l → (declT d).length ≤ 200000) → sumN (fun x : List UInt8 => x.length + 1) (l.map declT) ≤ 200001 * l.length := by
    intro l
    induction l with
    | nil => intro _; exact Nat.le_refl _
    | cons d r ih =>
      intro h
      have h4 := ih fun x hx => h x (List.mem_cons_of_mem _ hx)
      have h5 := h d (List.mem_cons_self ..)
      show ((declT d).length + 1) + sumN (fun x : List UInt8 => x.length + 1) (r.map declT) ≤ _
      simp only [List.length_cons]
      omega
  have h4 := hsum m.1 fun d hd => (hs.ar d hd).2
  unfold headT
  split
  · exact Nat.zero_le _
  · unfold lineL
    rw [List.length_append, words_len]
    show 4 + _ + 2 ≤ _
    omega
theorem row_one {W : World} {K : Nat → Prop} {g o c : Nat} {L : List Bnd} {xb : List Value} (h : RowAt W K 39 10 (.slice (some ⟨g, o, none⟩) L.length c) L.length xb) (ht : BndsAt W K L xb) {j : Nat} (hj : j < L.length) : ∃ xs, RowAt W K 39 10 (.slice (some ⟨g, o + j * 10, none⟩) 1 (c - j)) 1 xs ∧ BndsAt W K [L[j]] xs := by
  obtain ⟨aq, cq, k, nm, f, u, ap, np, cp, ak, nk, ck, ab, nb, cb, aa, na, ca, hQ, hE, hc⟩ := ht.cells j hj
  obtain ⟨h0, ⟨e, hz⟩ | ⟨g', o', c', cur, e, hk, hcur, h1, h2, h3⟩⟩ := h
  · omega
  · cases e
    have hb := BndsAt.cons (L[j]).1 (L[j]).2.1 (L[j]).2.2 [] _ _ [] hQ hE .nil
    exact ⟨[.string (tx L[j].1), .slice aq L[j].2.1.length cq, .int .i64 k, .string (tx nm), .bool f, .int .u64 u, .slice ap np cp, .slice ak nk ck, .slice ab nb cb, .slice aa na ca], ⟨rfl, Or.inr ⟨g, o + j * 10, c - j, cur, rfl, hk, hcur, by omega, by omega, fun i u hi => by
      have := h3 (j * 10 + i) u (hc i u hi)
      rwa [← Nat.add_assoc] at this⟩⟩, hb⟩
theorem sparts_walk (s : ByteArray) (w : World) (hp : PE w) : Calls Tryz.prog 4 #[.string s] w fun e w' => e = .returned (.bool true) ∧ Below w.heap.size w w' := by
  have HA := Hd (awake9_any w hp)
  have HP := Hd hp
  clear hp
  by_cases h : s.size ≤ 5000
  · have h' : ¬ (5000 : Int) < (s.size : Int) := by omega
    have HT := Hd (fun V => told9_any s (by omega) V)
    have HM := Hd (fun md a b (hm : modL s.data.toList = .ok md a b) => modL_sh (by rw [← Go.Lib.size_eq]; omega) hm)
    clear h
    go_enter Tryz.func4, Tryz.ntmps4
    go_wp2_with fail
    refine HA.out.mono ?_
    rintro e w2 ⟨rfl, hb2⟩
    have H2 := Hd hb2
    have HTw := Hd (HT.out w2)
    clear hb2 HA HT
    go_wp2_with fail
    refine HTw.out.mono ?_
    rintro e w3 ⟨ht, hb3⟩
    have HB := Hd (onB' H2.out hb3)
    clear hb3 HTw
    cases ho : modL s.data.toList with
    | bad er ln =>
      rw [ho] at ht
      have he : e = _ := ht
      subst he
      have HX := Hd (onB' HB.out ((Below.refl w3.heap.size w3).alloc Nr (.cells #[.slice none 0 0, .slice none 0 0] 26)))
      clear ho HM ht
      go_wp2_with fail
      go_ret
      exact ⟨rfl, HX.out⟩
    | ok m a b =>
      rw [ho] at ht
      have hsh := HM.out m a b ho
      obtain ⟨ad, cd, ab, cb, rfl, hm⟩ := ht
      have hx := (Below.refl w3.heap.size w3).alloc Nr (.cells #[.slice ad m.1.length cd, .slice ab m.2.length cb] 26)
      have HO := Hd (Ai hx (Ai (BoxW.alloc w3 #[.slice ad m.1.length cd, .slice ab m.2.length cb] 26) (Ai (hm.below hx) (Ai hsh ((HP.out.below HB.out).below hx)))))
      have HLn := Hd (fun j => Nt (lines_take m.2 j) (show (linesT m.2).length ≤ 20000000000 by
        rw [lines_len]
        have := bindsLB m.2 hsh.kb hsh.wb
        have := hsh.wx
        omega))
      have hmc : ModAt (w3.alloc (.cells #[.slice ad m.1.length cd, .slice ab m.2.length cb] 26)) (fun _ => True) (m.1, []) ad cd none 0 := ⟨HO.out.2.2.1.dr, [], RowAt.nil _ _ _ _, .nil⟩
      have HMc := Hd (smod_any (m.1, []) (cons_ok hsh) (fun _ => True) ad cd none 0 (w3.alloc (.cells #[.slice ad m.1.length cd, .slice ab m.2.length cb] 26)) HO.out.2.2.2.2 hmc)
      rw [cons_text] at HMc
      have HH := Hd (headT_len hsh)
      have c0 : (w3.alloc (.cells #[.slice ad m.1.length cd, .slice ab m.2.length cb] 26)).cell? ⟨w3.heap.size, 0, none⟩ = some (.slice ad m.1.length cd) := HO.out.2.1.1 0 _ rfl
      have c1 : (w3.alloc (.cells #[.slice ad m.1.length cd, .slice ab m.2.length cb] 26)).cell? ⟨w3.heap.size, 1, none⟩ = some (.slice ab m.2.length cb) := HO.out.2.1.1 1 _ rfl
      have hcapB := (HO.out.2.2.1.br.choose_spec.1).cap
      unfold maxLen at hcapB
      clear ho HM hx hm hmc hsh
      by_cases g : m.1.length = 0
      · have hh : headT m.1 = [] := by unfold headT; rw [if_pos g]
        have ht0 : tx (headT m.1) = ⟨#[]⟩ := by rw [hh]; rfl
        rw [ht0] at HMc
        have hg0 : ((m.1.length : Int) == 0) = true := beq_iff_eq.2 (by omega)
        have HH0 := Hd hh
        have HF := Hd (show ([] : List UInt8).length ≤ 20000000000 from Nat.zero_le _)
        clear g
        go_wp2_with fail
        refine HMc.out.mono ?_
        rintro e w5 ⟨rfl, hb5⟩
        have H5 := Hd hb5
        have e0 : w5.cell? ⟨w3.heap.size, 0, none⟩ = some (.slice ad m.1.length cd) := (HO.out.2.1.below hb5).1 0 _ rfl
        clear hb5 HMc hh ht0
        go_wp2_with fail
        go_loopw [5, 6] (fun s5 s6 wr => ∃ j : Nat, j ≤ m.2.length ∧ s5 = .string (tx ([] ++ linesT (m.2.take j))) ∧ s6 = .int .i64 j ∧ Below (w3.alloc (.cells #[.slice ad m.1.length cd, .slice ab m.2.length cb] 26)).heap.size (w3.alloc (.cells #[.slice ad m.1.length cd, .slice ab m.2.length cb] 26)) wr) (fun _ s6 _ => m.2.length - (RowKit.intOf s6).toNat)
        case atStart => exact ⟨0, Nat.zero_le _, by rw [List.take_zero]; show _ = Value.string (tx ([] ++ [])); rw [List.append_nil]; rfl, rfl, H5.out⟩
        case round =>
          obtain ⟨j, hj, rfl, rfl, hbr⟩ := hrel
          have HR := Hd hbr
          have d0 : wr.cell? ⟨w3.heap.size, 0, none⟩ = some (.slice ad m.1.length cd) := (HO.out.2.1.below hbr).1 0 _ rfl
          have d1 : wr.cell? ⟨w3.heap.size, 1, none⟩ = some (.slice ab m.2.length cb) := (HO.out.2.1.below hbr).1 1 _ rfl
          clear hbr
          by_cases gj : j < m.2.length
          · have gj' : (j : Int) < (m.2.length : Int) := by omega
            obtain ⟨h1, xb, h2, h3⟩ := HO.out.2.2.1
            obtain ⟨g1, o1, ea1, k1, m1', -, -⟩ := h2.at (by omega)
            subst ea1
            obtain ⟨xs, h4, h5⟩ := row_one h2 h3 gj
            have HM1 := Hd (smod_any ([], [m.2[j]]) (one_ok HO.out.2.2.2.1 gj) (fun _ => True) none 0 (some ⟨g1, o1 + j * 10, none⟩) (cb - j) wr (HO.out.2.2.2.2.below HR.out) ⟨RowAt.nil _ _ _ _, xs, h4.blw HR.out, h5.blw HR.out⟩)
            rw [one_text] at HM1
            have HT := Hd (lines_step m.2 gj)
            have hl1 := HLn.out (j + 1)
            have hl0 := HLn.out j
            rw [lines_step m.2 gj, List.length_append] at hl1
            have hz1 : (tx (lineL (bindT m.2[j]))).size ≤ 20000000000 := by rw [tx_size]; omega
            have hz2 : (tx ([] ++ linesT (m.2.take j))).size ≤ 60000000000 := by rw [tx_size, List.length_append]; have := HF.out; omega
            have hs1 : ¬ 9223372036854775807 < (tx ([] ++ linesT (m.2.take j))).size + (tx (lineL (bindT m.2[j]))).size := by omega
            have HE := Hd (show tx ([] ++ linesT (m.2.take j)) ++ tx (lineL (bindT m.2[j])) = tx ([] ++ linesT (m.2.take (j + 1))) by rw [tx_app, HT.out, List.append_assoc])
            clear h1 h2 h3 h4 h5 hl1 hl0
            generalize tx ([] ++ linesT (m.2.take j)) = tj at *
            generalize tx (lineL (bindT m.2[j])) = tl at *
            have ej : IntKind.i64.wrap ((j : Int) + 1) = (j : Int) + 1 := by rw [IntKind.wrap_i64]; omega
            have b0 : (0 : Int) ≤ (j : Int) := by omega
            have b1 : (j : Int) ≤ (j : Int) + 1 := by omega
            have b2 : (j : Int) + 1 ≤ (cb : Int) := by omega
            have b3 : ((j : Int) + 1).toNat = j + 1 := by omega
            have b4 : j + 1 - j = 1 := by omega
            go_wp2_with fail
            refine HM1.out.mono ?_
            rintro e w6 ⟨rfl, hb6⟩
            have H6 := Hd (HR.out.trans (belowAt hb6 HR.out.size))
            clear hb6 HM1
            go_wp2_with fail
            exact ⟨⟨j + 1, by omega, by rw [HE.out], by go_num, H6.out⟩, by simp [RowKit.intOf]; omega⟩
          · obtain rfl : j = m.2.length := by omega
            rw [List.take_length]
            have HM2 := Hd (smod_any m HO.out.2.2.2.1 (fun _ => True) ad cd ab cb wr (HO.out.2.2.2.2.below HR.out) (HO.out.2.2.1.below HR.out))
            have HE := Hd (show tx ([] ++ linesT m.2) = tx (modT m) by rw [← HH0.out]; rfl)
            generalize tx ([] ++ linesT m.2) = ta at *
            generalize tx (modT m) = tb at *
            have he := HE.out
            subst he
            go_wp2_with fail
            refine HM2.out.mono ?_
            rintro e w7 ⟨rfl, hb7⟩
            have H7 := Hd (onB' HB.out (onB' HO.out.1 (HR.out.trans (belowAt hb7 HR.out.size))))
            clear hb7 HM2
            go_wp2_with fail
            go_ret
            exact ⟨rfl, H7.out⟩
      · have hh : headT m.1 = lineL (wordsL dataL (m.1.map declT)) := by unfold headT; rw [if_neg g]
        have ht0 : (tx (headT m.1)).toList.isEmpty = false := by
          rw [hh, ByteArray.toList_eq]
          unfold lineL wordsL dataL
          simp [tx]
        have hg0 : ((m.1.length : Int) == 0) = false := beq_eq_false_iff_ne.2 (by omega)
        have HF := HH
        clear hh g
        go_wp2_with fail
        refine HMc.out.mono ?_
        rintro e w5 ⟨rfl, hb5⟩
        have H5 := Hd hb5
        have e0 : w5.cell? ⟨w3.heap.size, 0, none⟩ = some (.slice ad m.1.length cd) := (HO.out.2.1.below hb5).1 0 _ rfl
        clear hb5 HMc
        go_wp2_with fail
        go_loopw [5, 6] (fun s5 s6 wr => ∃ j : Nat, j ≤ m.2.length ∧ s5 = .string (tx (headT m.1 ++ linesT (m.2.take j))) ∧ s6 = .int .i64 j ∧ Below (w3.alloc (.cells #[.slice ad m.1.length cd, .slice ab m.2.length cb] 26)).heap.size (w3.alloc (.cells #[.slice ad m.1.length cd, .slice ab m.2.length cb] 26)) wr) (fun _ s6 _ => m.2.length - (RowKit.intOf s6).toNat)
        case atStart => exact ⟨0, Nat.zero_le _, by rw [List.take_zero]; show _ = Value.string (tx (headT m.1 ++ [])); rw [List.append_nil], rfl, H5.out⟩
        case round =>
          obtain ⟨j, hj, rfl, rfl, hbr⟩ := hrel
          have HR := Hd hbr
          have d0 : wr.cell? ⟨w3.heap.size, 0, none⟩ = some (.slice ad m.1.length cd) := (HO.out.2.1.below hbr).1 0 _ rfl
          have d1 : wr.cell? ⟨w3.heap.size, 1, none⟩ = some (.slice ab m.2.length cb) := (HO.out.2.1.below hbr).1 1 _ rfl
          clear hbr
          by_cases gj : j < m.2.length
          · have gj' : (j : Int) < (m.2.length : Int) := by omega
            obtain ⟨h1, xb, h2, h3⟩ := HO.out.2.2.1
            obtain ⟨g1, o1, ea1, k1, m1', -, -⟩ := h2.at (by omega)
            subst ea1
            obtain ⟨xs, h4, h5⟩ := row_one h2 h3 gj
            have HM1 := Hd (smod_any ([], [m.2[j]]) (one_ok HO.out.2.2.2.1 gj) (fun _ => True) none 0 (some ⟨g1, o1 + j * 10, none⟩) (cb - j) wr (HO.out.2.2.2.2.below HR.out) ⟨RowAt.nil _ _ _ _, xs, h4.blw HR.out, h5.blw HR.out⟩)
            rw [one_text] at HM1
            have HT := Hd (lines_step m.2 gj)
            have hl1 := HLn.out (j + 1)
            have hl0 := HLn.out j
            rw [lines_step m.2 gj, List.length_append] at hl1
            have hz1 : (tx (lineL (bindT m.2[j]))).size ≤ 20000000000 := by rw [tx_size]; omega
            have hz2 : (tx (headT m.1 ++ linesT (m.2.take j))).size ≤ 60000000000 := by rw [tx_size, List.length_append]; have := HF.out; omega
            have hs1 : ¬ 9223372036854775807 < (tx (headT m.1 ++ linesT (m.2.take j))).size + (tx (lineL (bindT m.2[j]))).size := by omega
            have HE := Hd (show tx (headT m.1 ++ linesT (m.2.take j)) ++ tx (lineL (bindT m.2[j])) = tx (headT m.1 ++ linesT (m.2.take (j + 1))) by rw [tx_app, HT.out, List.append_assoc])
            clear h1 h2 h3 h4 h5 hl1 hl0
            generalize tx (headT m.1 ++ linesT (m.2.take j)) = tj at *
            generalize tx (lineL (bindT m.2[j])) = tl at *
            have ej : IntKind.i64.wrap ((j : Int) + 1) = (j : Int) + 1 := by rw [IntKind.wrap_i64]; omega
            have b0 : (0 : Int) ≤ (j : Int) := by omega
            have b1 : (j : Int) ≤ (j : Int) + 1 := by omega
            have b2 : (j : Int) + 1 ≤ (cb : Int) := by omega
            have b3 : ((j : Int) + 1).toNat = j + 1 := by omega
            have b4 : j + 1 - j = 1 := by omega
            go_wp2_with fail
            refine HM1.out.mono ?_
            rintro e w6 ⟨rfl, hb6⟩
            have H6 := Hd (HR.out.trans (belowAt hb6 HR.out.size))
            clear hb6 HM1
            go_wp2_with fail
            exact ⟨⟨j + 1, by omega, by rw [HE.out], by go_num, H6.out⟩, by simp [RowKit.intOf]; omega⟩
          · obtain rfl : j = m.2.length := by omega
            rw [List.take_length]
            have HM2 := Hd (smod_any m HO.out.2.2.2.1 (fun _ => True) ad cd ab cb wr (HO.out.2.2.2.2.below HR.out) (HO.out.2.2.1.below HR.out))
            have HE := Hd (show tx (headT m.1 ++ linesT m.2) = tx (modT m) by rfl)
            generalize tx (headT m.1 ++ linesT m.2) = ta at *
            generalize tx (modT m) = tb at *
            have he := HE.out
            subst he
            go_wp2_with fail
            refine HM2.out.mono ?_
            rintro e w7 ⟨rfl, hb7⟩
            have H7 := Hd (onB' HB.out (onB' HO.out.1 (HR.out.trans (belowAt hb7 HR.out.size))))
            clear hb7 HM2
            go_wp2_with fail
            go_ret
            exact ⟨rfl, H7.out⟩
  · have h' : (5000 : Int) < (s.size : Int) := by omega
    go_enter Tryz.func4, Tryz.ntmps4
    go_wp2_with fail
    refine HA.out.mono ?_
    rintro e w2 ⟨rfl, hb2⟩
    have H2 := Hd hb2
    clear hb2 HA
    go_wp2_with fail
    go_ret
    exact ⟨rfl, H2.out⟩
end Go.Proofs.YthehgcmhcioffaaGreatDoor
namespace Go.Proofs.YthehgcmhcioffaaGreatDoor
open Go.ChangeShapes Go.WideShapes Go.ChangeAt Go.RowKit
theorem own : ownKnob Tryz.prog.godebug = none := by kernel_rfl
def tab64 : List Int := [0, 1, 56, 2, 57, 49, 28, 3, 61, 58, 42, 50, 38, 29, 17, 4, 62, 47, 59, 36, 45, 43, 51, 22, 53, 39, 33, 30, 24, 18, 12, 5, 63, 55, 48, 27, 60, 41, 37, 16, 46, 35, 44, 21, 52, 32, 23, 11, 54, 26, 40, 15, 34, 20, 31, 10, 25, 14, 19, 9, 13, 8, 7, 6]
theorem pe_of_laid {W : World} (h0 : laidMetH Tryz.prog Rows.showPartsRow.laid W) : PE W := by
  have h' : laidMet Tryz.prog Rows.showPartsRow.laid W := by
    have h := h0
    rw [MakeChecks.laidMetH_plain _ _ _ (by kernel_rfl)] at h
    exact h
  have h2 := laidMet.tail h'
  have h3 := laidMet.tail h2
  have g1 : Tryz.prog.globalNamed "internal/strconv.uint64pow10" = some 20 := by kernel_rfl
  have g6 : Tryz.prog.globalNamed "math/bits.deBruijn64tab" = some 22 := by kernel_rfl
  have t1 : Lib.TabIs Tryz.prog W "internal/strconv.uint64pow10" .u64 Lib.pow10Tab :=
    Lib.tabIs_of_head g1 (show (Tryz.prog.globals[20]?).map (·.type) = some 178 by kernel_rfl) Tryz.underlying178 Tryz.underlying31 (by kernel_rfl) (by kernel_rfl) h3
  have t6 : Lib.TabIs Tryz.prog W "math/bits.deBruijn64tab" .u8 tab64 :=
    Lib.tabIs_of_head g6 (show (Tryz.prog.globals[22]?).map (·.type) = some 203 by kernel_rfl) Tryz.underlying203 Tryz.underlying5 (by kernel_rfl) (by kernel_rfl) h2
  exact ⟨t1, t6.cell g6 15 (by decide)⟩
end Go.Proofs.YthehgcmhcioffaaGreatDoor
