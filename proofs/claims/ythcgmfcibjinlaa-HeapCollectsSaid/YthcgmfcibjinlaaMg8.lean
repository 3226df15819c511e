import Derived.Test.YthcgmfcibjinlaaChecked
import Derived.Laws.Bits128
import Derived.WalkKit
import Derived.Lib.Hide
import Derived.WalkSpells
import Derived.WalkLawsBesides
import Derived.Deep.QuietTactic
import Derived.Deep.DeepCutAuto
import Derived.BigQuiet
import Derived.Laws.StructEq
import Derived.Lib.QuietBelow
import Derived.KernelRfl
import Derived.Test.YthcgmfcibjinlaaMg7
/- A cell is taken. -/
namespace Go.Proofs.Ythcgmfcibjinlaa
open Go.RowKit

/-- A heap's fields turn. -/
theorem HLies.setTop {x : HSpot} {T : Nat → Nat} {D : Nat → Int} {R : Nat → Rows} {top par : Int} {L : List (Int × Int)} {w : World} (h : HLies x T D R top par L w) (t : Int) :
    HLies x T D R t par L (w.setCell ⟨x.h, 4, none⟩ (.int .i64 t)) ∧ HTurn T T w (w.setCell ⟨x.h, 4, none⟩ (.int .i64 t)) := by
  obtain ⟨cb, cap, g, hT, hc, hcs, hR⟩ := h.rest
  obtain ⟨u, hu⟩ := h.at
  have hS : ∀ b, T b ≠ 0 → (w.setCell ⟨x.h, 4, none⟩ (.int .i64 t)).heap[b]? = w.heap[b]? := fun b hb => Below.heap_setCell _ _ _ _ (fun e => hb (by rw [e]; exact hT.h))
  have o : ∀ (j : Nat) (v : Value), j ≠ 4 → w.cell? ⟨x.h, j, none⟩ = some v → (w.setCell ⟨x.h, 4, none⟩ (.int .i64 t)).cell? ⟨x.h, j, none⟩ = some v := fun j v hj hv => (World.cell?_setCell_other _ _ _ _ (fun e => hj (by cases e; rfl))).trans hv
  have sz : (w.setCell ⟨x.h, 4, none⟩ (.int .i64 t)).heap.size = w.heap.size := by simp [World.setCell]
  have oc : ∀ (b j : Nat) (v : Value), T b ≠ 0 → w.cell? ⟨b, j, none⟩ = some v → (w.setCell ⟨x.h, 4, none⟩ (.int .i64 t)).cell? ⟨b, j, none⟩ = some v := fun b j v hb hv => (World.cell?_of_block (w := w) (hS b hb)).trans hv
  have hA : At (w.setCell ⟨x.h, 4, none⟩ (.int .i64 t)) x.p x.d x.n D u := hu.move (hS _ (by rw [hT.p]; omega)) (hS _ (by rw [hT.d]; omega)) (by rw [sz]; omega)
  refine ⟨⟨o 0 _ (by omega) h.arena, o 2 _ (by omega) h.large, o 3 _ (by omega) h.room, World.cell?_setCell_same _ _ _ h.top, o 5 _ (by omega) h.lim, o 6 _ (by omega) h.par, fun j => (World.frozen?_setCell _ _ _ _).trans (h.fz j), fun i hi => ?_, h.sp, h.k1, h.k6,
    cb, cap, g, hT, o 1 _ (by omega) hc, fun i hi => ⟨oc _ _ _ (by rw [hT.cb]; omega) (hcs i hi).1, oc _ _ _ (by rw [hT.cb]; omega) (hcs i hi).2⟩, hR.move (hS _ (by rw [hT.rp]; omega)) (hS _ (by rw [hT.g]; omega)) (by rw [sz]; omega)⟩,
    rfl, rfl, rfl, by rw [sz]; omega, fun b _ hb => ⟨hb, hS b (by omega)⟩⟩
  obtain ⟨e1, e2, e3⟩ := h.sp i hi
  exact (h.rings i hi).anew (by rw [sz]; omega) (fun b hb => hS b (by rw [hT.s i hi b hb]; omega)) ⟨u, by rw [e1, e2, e3]; exact hA⟩ (fun _ _ => rfl)

/-- enter, of a ring. -/
def Enters (s : Spot) (R : Rows) (D : Nat → Int) (c : Int) (w : World) (e : Ending) (w' : World) : Prop :=
  e = .returned (.tuple #[.int .i64 c, .int .i64 0]) ∧ (∃ D', RingD s (R.grow c).alloc D' w' ∧ SameBut (R.grow c) D D') ∧ Turn s w w'

set_option maxHeartbeats 1000000 in
set_option maxRecDepth 100000 in
theorem enter_ring (s : Spot) (R : Rows) (D : Nat → Int) (w : World) (hR : RingD s R D w) (c : Int) (hf : Fit s.n (c :: R.all)) (hl : R.all.length < 1000) :
    Calls Try.prog 86 #[.pointer (some ⟨s.r, 0, none⟩), .int .i64 c] w (Enters s R D c w) := by
  have H1 := Lib.hid (ringd_grow s R w D hR c hf hl)
  clear hR hf hl
  go_enter Try.func86, Try.ntmps86
  go_wp2_with fail
  refine H1.out.mono ?_
  rintro e w2 ⟨rfl, ⟨D', h2, h3⟩, ht⟩
  have H2 := Lib.hid (And.intro h2 (And.intro h3 ht))
  clear H1 h2 h3 ht
  go_wp2_with fail
  refine (ringd_alloc s (R.grow c) w2 D' H2.out.1 c R.white rfl).mono ?_
  rintro e w3 ⟨rfl, ⟨D2, h2, rfl⟩, ht⟩
  have H3 := Lib.hid (And.intro h2 ht)
  clear h2 ht
  go_wp2_with fail
  refine bodyPost_ret (v := .tuple #[.int .i64 c, .int .i64 0]) (by simp [results, Try.results86, go_sem]) rfl ?_
  exact ⟨rfl, ⟨D2, H3.out.1, H2.out.2.1⟩, H2.out.2.2.trans H3.out.2⟩

/-- Cells of two rings lie apart. -/
def Far (k : Nat) (R : Nat → Rows) : Prop := ∀ i, i ≤ k → ∀ j, j ≤ k → i ≠ j → ∀ a, a ∈ (R i).all → ∀ b, b ∈ (R j).all → a + 3 ≤ b ∨ b + 3 ≤ a
theorem far_links {k : Nat} {R : Nat → Rows} {Q : Rows} {D D' : Nat → Int} {i : Nat} (hQ : ∀ j, j ≤ k → j ≠ i → ∀ a, a ∈ Q.all → ∀ b, b ∈ (R j).all → a + 3 ≤ b ∨ b + 3 ≤ a) (hs : SameBut Q D D') : ∀ j, j ≤ k → j ≠ i → ∀ m, Links (R j) m → D' m = D m := by
  intro j hj hji m hm
  obtain ⟨b, hb, hbm⟩ := hm
  refine hs m ?_
  rintro ⟨a, ha, ham⟩
  have := hQ j hj hji a ha b hb
  omega

/-- One row turns. -/
def put1 (R : Nat → Rows) (i : Nat) (Q : Rows) : Nat → Rows := fun j => if j = i then Q else R j

/-- What takeOf does: a white cell, or a new one, or none. -/
inductive TakenOf (x : HSpot) (T : Nat → Nat) (D : Nat → Int) (R : Nat → Rows) (top par : Int) (L : List (Int × Int)) (i : Nat) (w : World) (e : Ending) (w' : World) : Prop
  | white (c : Int) (l : List Int) (hw : (R i).white = c :: l) (he : e = .returned (.tuple #[.int .i64 c, .int .i64 0])) (h : HLies x T D (put1 R i (R i).alloc) top par L w') (ht : HTurn T T w w')
  | fresh (D' : Nat → Int) (hw : (R i).white = []) (hr : top + x.sz i + 3 ≤ x.lim) (he : e = .returned (.tuple #[.int .i64 top, .int .i64 0])) (h : HLies x T D' (put1 R i ((R i).grow top).alloc) (top + x.sz i + 3) par L w') (hD : SameBut ((R i).grow top) D D') (ht : HTurn T T w w')
  | full (hw : (R i).white = []) (hr : x.lim < top + x.sz i + 3) (he : e = .returned (.tuple #[.int .i64 0, .int .i64 2])) (h : HLies x T D R top par L w') (ht : HTurn T T w w')

set_option maxHeartbeats 4000000 in
set_option maxRecDepth 100000 in
theorem take_of (x : HSpot) (T : Nat → Nat) (D : Nat → Int) (R : Nat → Rows) (top par : Int) (L : List (Int × Int)) (w : World) (h : HLies x T D R top par L w) (i : Nat) (hi : i < x.k) (hsz : 1 ≤ x.sz i ∧ x.sz i ≤ 24) (ht0 : 1 ≤ top) (ht1 : top ≤ x.lim) (hlim : x.lim ≤ x.n) (hn : x.n ≤ 65536)
    (hFar : Far x.k R) (hTop : ∀ j, j < x.k → ∀ a, a ∈ (R j).all → a + 3 ≤ top) (hBig : ∀ a, a ∈ (R x.k).all → x.lim ≤ a) (hl : (R i).all.length < 1000) :
    Calls Try.prog 84 #[.pointer (some ⟨x.h, 0, none⟩), .agg #[.int .i64 (x.sz i), .pointer (some ⟨(x.S i).r, 0, none⟩)]] w (TakenOf x T D R top par L i w) := by
  have hx := (Below.refl w.heap.size w).alloc (Nat.le_refl _) (.cells #[.int .i64 (x.sz i), .pointer (some ⟨(x.S i).r, 0, none⟩)] 101)
  have b0 : (w.alloc (.cells #[.int .i64 (x.sz i), .pointer (some ⟨(x.S i).r, 0, none⟩)] 101)).cell? ⟨w.heap.size, 0, none⟩ = some (.int .i64 (x.sz i)) := by simp [go_sem]
  have b1 : (w.alloc (.cells #[.int .i64 (x.sz i), .pointer (some ⟨(x.S i).r, 0, none⟩)] 101)).cell? ⟨w.heap.size, 1, none⟩ = some (.pointer (some ⟨(x.S i).r, 0, none⟩)) := by simp [go_sem]
  have HX := Lib.hid (And.intro hx (h.later hx))
  have hne : w.heap.size ≠ x.h := by have := h.lh; omega
  have HF := Lib.hid hFar
  have HP := Lib.hid hTop
  have HBG := Lib.hid hBig
  clear hx h hFar hTop hBig
  go_enter Try.func84, Try.ntmps84
  go_upto_region 1 with fail
  generalize (w.alloc (.cells #[.int .i64 (x.sz i), .pointer (some ⟨(x.S i).r, 0, none⟩)] 101)) = W at *
  go_wp2_with fail
  cases hw : (R i).white with
  | cons c l =>
    refine (ringd_alloc (x.S i) (R i) W D (HX.out.2.rings i (by omega)) c l hw).mono ?_
    rintro e w2 ⟨rfl, ⟨D2, h2, rfl⟩, ht⟩
    have H2 := Lib.hid (HX.out.2.ring (Nat.le_of_lt hi) h2 ht (fun _ _ _ _ _ => rfl))
    clear h2 ht
    go_wp2_with fail
    refine bodyPost_ret (v := .tuple #[.int .i64 c, .int .i64 0]) (by simp [results, Try.results84, go_sem]) rfl ?_
    exact .white c l hw rfl H2.out.1 ((HTurn.of_below HX.out.1).trans H2.out.2)
  | nil =>
    refine (ring_alloc_full (x.S i) (R i) W (HX.out.2.rings i (by omega)).ring hw).mono ?_
    rintro e w2 ⟨rfl, rfl⟩
    have hh := HX.out.2
    have c4 := hh.top
    have c5 := hh.lim
    have z4 := hh.fz 4
    have e1 : IntKind.i64.wrap (top + x.sz i) = top + x.sz i := by rw [IntKind.wrap_i64]; omega
    have e2 : IntKind.i64.wrap (top + x.sz i + 3) = top + x.sz i + 3 := by rw [IntKind.wrap_i64]; omega
    clear hh
    by_cases g : (x.lim : Int) < top + x.sz i + 3
    · have g' : decide ((x.lim : Int) < top + x.sz i + 3) = true := decide_eq_true g
      go_wp2_with fail
      go_region
      go_wp2_with fail
      refine bodyPost_ret (v := .tuple #[.int .i64 0, .int .i64 2]) (by simp [results, Try.results84, go_sem]) rfl ?_
      have hd := (Below.refl w2.heap.size w2).drew
      exact .full hw g rfl (HX.out.2.later hd) ((HTurn.of_below HX.out.1).trans (HTurn.of_below hd))
    · have g' : decide ((x.lim : Int) < top + x.sz i + 3) = false := decide_eq_false g
      go_wp2_with fail
      go_region
      obtain ⟨h3, t3⟩ := HX.out.2.setTop (top + x.sz i + 3)
      have b1' := (World.cell?_setCell_other w2 ⟨x.h, 4, none⟩ ⟨w.heap.size, 1, none⟩ (.int .i64 (top + x.sz i + 3)) (fun e => hne (congrArg Addr.block e).symm)).trans b1
      go_wp2_with fail
      have hd := (Below.refl (w2.setCell ⟨x.h, 4, none⟩ (.int .i64 (top + x.sz i + 3))).heap.size (w2.setCell ⟨x.h, 4, none⟩ (.int .i64 (top + x.sz i + 3)))).drew
      have HH := Lib.hid (And.intro (h3.later hd) (((HTurn.of_below HX.out.1).trans t3).trans (HTurn.of_below hd)))
      generalize (w2.setCell ⟨x.h, 4, none⟩ (.int .i64 (top + x.sz i + 3))).drew = W3 at *
      clear h3 t3 hd b1'
      have hfit : Fit (x.S i).n (top :: (R i).all) := by
        have hf := (HX.out.2.rings i (by omega)).fit
        have e3 := (HX.out.2.sp i (by omega)).2.2
        rw [e3] at hf ⊢
        refine ⟨fun a ha => ?_, List.pairwise_cons.2 ⟨fun a ha => Or.inr (HP.out i hi a ha), hf.far⟩⟩
        rcases List.mem_cons.1 ha with rfl | ha
        · exact ⟨ht0, by omega⟩
        · exact hf.rng a ha
      refine (enter_ring (x.S i) (R i) D W3 (HH.out.1.rings i (by omega)) top hfit hl).mono ?_
      rintro e w4 ⟨rfl, ⟨D', h5, h6⟩, ht⟩
      have hfar : ∀ j, j ≤ x.k → j ≠ i → ∀ a, a ∈ ((R i).grow top).all → ∀ b, b ∈ (R j).all → a + 3 ≤ b ∨ b + 3 ≤ a := by
        intro j hj hji a ha b hb
        rcases List.mem_cons.1 (show a ∈ top :: (R i).all from ha) with rfl | ha
        · by_cases ek : j = x.k
          · subst ek
            have := HBG.out b hb
            omega
          · exact Or.inr (HP.out j (by omega) b hb)
        · exact HF.out i (by omega) j hj (Ne.symm hji) a ha b hb
      have H5 := Lib.hid (And.intro (HH.out.1.ring (Nat.le_of_lt hi) h5 ht (far_links hfar h6)) h6)
      clear h5 h6 ht hfar hfit
      go_wp2_with fail
      refine bodyPost_ret (v := .tuple #[.int .i64 top, .int .i64 0]) (by simp [results, Try.results84, go_sem]) rfl ?_
      exact .fresh D' hw (by omega) rfl H5.out.1.1 H5.out.2 (HH.out.2.trans H5.out.1.2)

end Go.Proofs.Ythcgmfcibjinlaa

/- An object's word, in numbers: what is joined, what is split off, and which objects fit. -/
namespace Go.Proofs.Ythcgmfcibjinlaa.Ce
open Go

/-- Within 64 bits. -/
def InR (a : Int) : Prop := -9223372036854775808 ≤ a ∧ a ≤ 9223372036854775807

theorem and_low (n : Int) (k : Nat) (hk : k ≤ 62) : bits .and .i64 n ((2 ^ k - 1 : Nat) : Int) = n % ((2 ^ k : Nat) : Int) := by
  have hp : (2 : Nat) ^ k ∣ 2 ^ 64 := Nat.pow_dvd_pow 2 (by omega)
  have hlt : 2 ^ k ≤ 2 ^ 62 := Nat.pow_le_pow_right (by decide) hk
  have hpos : 0 < 2 ^ k := Nat.pow_pos (by decide)
  have hm : (BitVec.ofInt 64 ((2 ^ k - 1 : Nat) : Int)).toNat = 2 ^ k - 1 := by
    rw [BitVec.ofInt_natCast, BitVec.toNat_ofNat]
    exact Nat.mod_eq_of_lt (by omega)
  have key : (BitVec.ofInt 64 n &&& BitVec.ofInt 64 ((2 ^ k - 1 : Nat) : Int)).toNat = (n % ((2 ^ 64 : Nat) : Int)).toNat % 2 ^ k := by
    rw [BitVec.toNat_and, BitVec.toNat_ofInt, hm, Nat.and_two_pow_sub_one_eq_mod]
  show IntKind.i64.wrap ((BitVec.ofInt 64 n &&& BitVec.ofInt 64 ((2 ^ k - 1 : Nat) : Int)).toNat : Nat) = _
  rw [key, IntKind.wrap_i64]
  have h0 : 0 ≤ n % ((2 ^ 64 : Nat) : Int) := Int.emod_nonneg _ (by decide)
  have h1 : (((n % ((2 ^ 64 : Nat) : Int)).toNat % 2 ^ k : Nat) : Int) = n % ((2 ^ k : Nat) : Int) := by
    rw [Int.natCast_emod, Int.toNat_of_nonneg h0]
    exact Int.emod_emod_of_dvd n (Int.natCast_dvd_natCast.2 hp)
  rw [h1]
  have h2 : 0 ≤ n % ((2 ^ k : Nat) : Int) := Int.emod_nonneg _ (by omega)
  have h3 : n % ((2 ^ k : Nat) : Int) < ((2 ^ k : Nat) : Int) := Int.emod_lt_of_pos _ (by omega)
  omega

theorem and1 (n : Int) : bits .and .i64 n 1 = n % 2 := and_low n 1 (by decide)
theorem and15 (n : Int) : bits .and .i64 n 15 = n % 16 := and_low n 4 (by decide)
theorem and31 (n : Int) : bits .and .i64 n 31 = n % 32 := and_low n 5 (by decide)
theorem and24 (n : Int) : bits .and .i64 n 16777215 = n % 16777216 := and_low n 24 (by decide)

/-- What stands in the bits of each part. -/
def kb (w : Int) : Int := w % 16
def mb (w : Int) : Int := w / 16 % 2
def sb (w : Int) : Int := w / 32 % 32
def ab (w : Int) : Int := w / 1024 % 16777216

/-- The parts, each at its bit. -/
def jn (k s a m : Int) : Int := k + m * 16 + s * 32 + a * 1024

/-- Each part in its bounds. -/
def Fit (k s a m : Int) : Prop := (0 ≤ k ∧ k ≤ 10) ∧ (0 ≤ s ∧ s ≤ 31) ∧ (0 ≤ a ∧ a ≤ 16777215) ∧ (0 ≤ m ∧ m ≤ 1)

/-- The error that an object has. -/
def pe (k s a m : Int) : Int := if k < 0 ∨ 10 < k then 6 else if s < 0 ∨ 31 < s ∨ a < 0 ∨ 16777215 < a ∨ m < 0 ∨ 1 < m then 1 else 0
/-- The word that an object has. -/
def pw (k s a m : Int) : Int := if pe k s a m = 0 then jn k s a m else 0

theorem pe_fit (k s a m : Int) : pe k s a m = 0 ↔ Fit k s a m := by
  unfold pe Fit
  split
  · omega
  · split <;> omega
theorem pe_ok {k s a m : Int} (h : Fit k s a m) : pe k s a m = 0 := (pe_fit _ _ _ _).2 h
theorem pw_ok {k s a m : Int} (h : Fit k s a m) : pw k s a m = jn k s a m := by unfold pw; rw [if_pos (pe_ok h)]
theorem jn_range {k s a m : Int} (h : Fit k s a m) : 0 ≤ jn k s a m ∧ jn k s a m < 17179869184 := by unfold Fit at h; unfold jn; omega
theorem pe_kind {k s a m : Int} (h : k < 0 ∨ 10 < k) : pe k s a m = 6 := by unfold pe; rw [if_pos h]
theorem pw_kind {k s a m : Int} (h : k < 0 ∨ 10 < k) : pw k s a m = 0 := by unfold pw; rw [pe_kind h]; rfl
theorem pe_range {k s a m : Int} (h : ¬ (k < 0 ∨ 10 < k)) (h2 : ¬ Fit k s a m) : pe k s a m = 1 := by
  unfold pe; rw [if_neg h, if_pos]; unfold Fit at h2; omega
theorem pw_range {k s a m : Int} (h : ¬ (k < 0 ∨ 10 < k)) (h2 : ¬ Fit k s a m) : pw k s a m = 0 := by
  unfold pw; rw [pe_range h h2]; rfl

/-- What is split off what was joined, whatever was joined. -/
theorem parts_of {k s a m w : Int} (h : Fit k s a m) (hw : w = jn k s a m) : kb w = k ∧ sb w = s ∧ ab w = a ∧ mb w = m := by
  subst hw; unfold Fit at h; unfold kb sb ab mb jn; omega
theorem fit_of {k s a m : Int} (w : Int) (hk : ¬ (k < 0 ∨ 10 < k)) (h : kb w = k ∧ sb w = s ∧ ab w = a ∧ mb w = m) : Fit k s a m := by
  obtain ⟨h1, h2, h3, h4⟩ := h
  unfold kb sb ab mb at *; unfold Fit; omega

/-- The word of what is split off a word. -/
theorem jn_parts (w : Int) : jn (kb w) (sb w) (ab w) (mb w) = w % 17179869184 := by unfold kb sb ab mb jn; omega
/-- There is an object of this word. -/
def Word (w : Int) : Prop := 0 ≤ w ∧ w < 17179869184 ∧ w % 16 ≤ 10
theorem word_fit (w : Int) (h : Word w) : Fit (kb w) (sb w) (ab w) (mb w) := by unfold Word at h; unfold Fit kb sb ab mb; omega
theorem word_of (w : Int) (h1 : Fit (kb w) (sb w) (ab w) (mb w)) (h2 : jn (kb w) (sb w) (ab w) (mb w) = w) : Word w := by
  rw [jn_parts] at h2; unfold Fit kb at h1; unfold Word; omega
theorem jn_word (w : Int) (h : Word w) : jn (kb w) (sb w) (ab w) (mb w) = w := by rw [jn_parts]; unfold Word at h; omega
theorem word_jn {k s a m : Int} (h : Fit k s a m) : Word (jn k s a m) := by unfold Fit at h; unfold Word jn; omega

/-- Unlike objects have unlike words. -/
theorem jn_inj {k s a m k' s' a' m' : Int} (h : Fit k s a m) (h' : Fit k' s' a' m') (e : jn k s a m = jn k' s' a' m') : k = k' ∧ s = s' ∧ a = a' ∧ m = m' := by
  unfold Fit at h h'; unfold jn at e; omega
end Go.Proofs.Ythcgmfcibjinlaa.Ce

/- Contracts of the word's small functions: the bits of a part, what is split off, what is joined; when two objects are the same. -/
namespace Go.Proofs.Ythcgmfcibjinlaa.Ce
open Go.RowKit

theorem ret_i64 {a b : Int} (h : a = b) : Ending.returned (.int .i64 a) = .returned (.int .i64 b) := by rw [h]
theorem below_drewN {B : Nat} {a w : World} (h : Below B a w) (n : Nat) : Below B a (w.drewN n) := h.trans ⟨rfl, rfl, rfl, Nat.le_refl _, fun _ _ => rfl⟩
theorem onB {w W W' : World} (h : Below w.heap.size w W) (hb : Below W.heap.size W W') : Below w.heap.size w W' := h.trans (hb.mono h.size)

set_option maxHeartbeats 400000 in
set_option maxRecDepth 100000 in
theorem bits_kind (n : Int) (w : World) (hn : InR n) :
    Calls Try.prog 101 #[.int .i64 n, .int .i64 0, .int .i64 4] w fun e w' => e = .returned (.int .i64 (kb n)) ∧ Below w.heap.size w w' := by
  obtain ⟨h1, h2⟩ := hn
  go_enter Try.func101, Try.ntmps101
  go_wp2_with fail
  go_quiet (fail)
  go_wp2
  go_ret
  exact ⟨ret_i64 (and15 _), below_drewN (Below.refl _ _) _⟩

set_option maxHeartbeats 400000 in
set_option maxRecDepth 100000 in
theorem bits_mark (n : Int) (w : World) (hn : InR n) :
    Calls Try.prog 101 #[.int .i64 n, .int .i64 4, .int .i64 5] w fun e w' => e = .returned (.int .i64 (mb n)) ∧ Below w.heap.size w w' := by
  obtain ⟨h1, h2⟩ := hn
  go_enter Try.func101, Try.ntmps101
  go_wp2_with fail
  go_quiet (fail)
  go_wp2
  go_ret
  exact ⟨ret_i64 (and1 _), below_drewN (Below.refl _ _) _⟩

set_option maxHeartbeats 400000 in
set_option maxRecDepth 100000 in
theorem bits_size (n : Int) (w : World) (hn : InR n) :
    Calls Try.prog 101 #[.int .i64 n, .int .i64 5, .int .i64 10] w fun e w' => e = .returned (.int .i64 (sb n)) ∧ Below w.heap.size w w' := by
  obtain ⟨h1, h2⟩ := hn
  go_enter Try.func101, Try.ntmps101
  go_wp2_with fail
  go_quiet (fail)
  go_wp2
  go_ret
  exact ⟨ret_i64 (and31 _), below_drewN (Below.refl _ _) _⟩

set_option maxHeartbeats 400000 in
set_option maxRecDepth 100000 in
theorem bits_aux (n : Int) (w : World) (hn : InR n) :
    Calls Try.prog 101 #[.int .i64 n, .int .i64 10, .int .i64 34] w fun e w' => e = .returned (.int .i64 (ab n)) ∧ Below w.heap.size w w' := by
  obtain ⟨h1, h2⟩ := hn
  go_enter Try.func101, Try.ntmps101
  go_wp2_with fail
  go_quiet (fail)
  go_wp2
  go_ret
  exact ⟨ret_i64 (and24 _), below_drewN (Below.refl _ _) _⟩

/-- An object as it lies in a block of its own. -/
structure Box (w : World) (b : Nat) (k s a m : Value) : Prop where
  kind : w.cell? ⟨b, 0, none⟩ = some k
  size : w.cell? ⟨b, 1, none⟩ = some s
  aux : w.cell? ⟨b, 2, none⟩ = some a
  mark : w.cell? ⟨b, 3, none⟩ = some m
  f0 : w.frozen? ⟨b, 0, none⟩ = false
  f1 : w.frozen? ⟨b, 1, none⟩ = false
  f2 : w.frozen? ⟨b, 2, none⟩ = false
  f3 : w.frozen? ⟨b, 3, none⟩ = false
  lt : b < w.heap.size
theorem Box.later {w w' : World} {b : Nat} {k s a m : Value} (h : Box w b k s a m) (hb : Below w.heap.size w w') : Box w' b k s a m := by
  obtain ⟨h0, h1, h2, h3, g0, g1, g2, g3, hl⟩ := h
  have hs := hb.size
  exact ⟨(hb.cell hl).trans h0, (hb.cell hl).trans h1, (hb.cell hl).trans h2, (hb.cell hl).trans h3, (hb.frozen hl).trans g0, (hb.frozen hl).trans g1, (hb.frozen hl).trans g2, (hb.frozen hl).trans g3, by omega⟩
theorem box_new (w : World) (k s a m : Value) (t : TypeId) : Box (w.alloc (.cells #[k, s, a, m] t)) w.heap.size k s a m := by
  refine ⟨?_, ?_, ?_, ?_, ?_, ?_, ?_, ?_, ?_⟩ <;> simp [go_sem]
theorem Box.alloc {w : World} {b : Nat} {k s a m : Value} (h : Box w b k s a m) (o : Obj) : Box (w.alloc o) b k s a m :=
  h.later ((Below.refl _ _).alloc (Nat.le_refl _) o)

set_option maxHeartbeats 400000 in
set_option maxRecDepth 100000 in
theorem split_any (n : Int) (w : World) (hn : InR n) :
    Calls Try.prog 83 #[.int .i64 n] w fun e w' => e = .returned (.agg #[.int .i64 (kb n), .int .i64 (sb n), .int .i64 (ab n), .int .i64 (mb n)]) ∧ Below w.heap.size w w' := by
  have HN := Lib.hid hn
  clear hn
  have hB := (Below.refl w.heap.size w).alloc (Nat.le_refl _) (.cells #[.int .i64 0, .int .i64 0, .int .i64 0, .int .i64 0] 69)
  have hX := box_new w (.int .i64 0) (.int .i64 0) (.int .i64 0) (.int .i64 0) 69
  go_enter Try.func83, Try.ntmps83
  go_wp2_with fail
  generalize w.alloc (.cells #[.int .i64 0, .int .i64 0, .int .i64 0, .int .i64 0] 69) = W0 at hB hX ⊢
  refine (bits_kind n _ HN.out).mono ?_
  rintro e x1 ⟨rfl, hb⟩
  replace hB := onB hB hb
  replace hX := hX.later hb
  clear hb
  go_wp2_with fail
  refine (bits_mark n _ HN.out).mono ?_
  rintro e x2 ⟨rfl, hb⟩
  replace hB := onB hB hb
  replace hX := hX.later hb
  clear hb
  go_wp2_with fail
  refine (bits_size n _ HN.out).mono ?_
  rintro e x3 ⟨rfl, hb⟩
  replace hB := onB hB hb
  replace hX := hX.later hb
  clear hb
  go_wp2_with fail
  refine (bits_aux n _ HN.out).mono ?_
  rintro e x4 ⟨rfl, hb⟩
  replace hB := onB hB hb
  replace hX := hX.later hb
  clear hb
  obtain ⟨c0, c1, c2, c3, f0, f1, f2, f3, hl⟩ := hX
  go_wp2
  exact bodyPost_ret (v := .agg #[.int .i64 (kb n), .int .i64 (sb n), .int .i64 (ab n), .int .i64 (mb n)]) (by simp [results, Try.results83, go_sem, c0, c1, c2, c3]) rfl ⟨rfl, ((((hB.setCell (Nat.le_refl _) _).setCell (Nat.le_refl _) _).setCell (Nat.le_refl _) _).setCell (Nat.le_refl _) _)⟩
end Go.Proofs.Ythcgmfcibjinlaa.Ce

/- The program's own word of an object, and the object of a word: what is answered, whatever is asked. -/
namespace Go.Proofs.Ythcgmfcibjinlaa.Ce
open Go.RowKit Go.Sort

theorem eq_obj' (d : Nat) (k s a m k' s' a' m' : Int) (w : World) :
    (Op.equalIn (d + 2) 69 (.agg #[.int .i64 k, .int .i64 s, .int .i64 a, .int .i64 m]) (.agg #[.int .i64 k', .int .i64 s', .int .i64 a', .int .i64 m'])).run Try.prog w = .ok (k == k' && s == s' && a == a' && m == m') w := by
  have hf : Try.prog.underlying 69 = some (.struct (Try.prog.fieldsOf 69)) := by kernel_rfl
  have q : ∀ (x y : Int) (w : World), (Op.equalIn (d + 1) 3 (.int .i64 x) (.int .i64 y)).run Try.prog w = .ok (x == y) w := fun x y w => run_equalIn_int w d 3 .i64 .i64 x y Try.underlying3
  rw [run_equalIn_struct w (d + 1) 69 _ _ hf (by kernel_rfl)]
  generalize hE : Op.equalIn (d + 1) 3 = E at *
  have p0 : ∀ (x y z u : Int) (w : World), (part 3 #[.int .i64 x, .int .i64 y, .int .i64 z, .int .i64 u] 0).run Try.prog w = .ok (.int .i64 x) w := by intro x y z u w; simp [part, Try.isAgg3, go_sem]
  have p1 : ∀ (x y z u : Int) (w : World), (part 3 #[.int .i64 x, .int .i64 y, .int .i64 z, .int .i64 u] 1).run Try.prog w = .ok (.int .i64 y) w := by intro x y z u w; simp [part, Try.isAgg3, go_sem]
  have p2 : ∀ (x y z u : Int) (w : World), (part 3 #[.int .i64 x, .int .i64 y, .int .i64 z, .int .i64 u] 2).run Try.prog w = .ok (.int .i64 z) w := by intro x y z u w; simp [part, Try.isAgg3, go_sem]
  have p3 : ∀ (x y z u : Int) (w : World), (part 3 #[.int .i64 x, .int .i64 y, .int .i64 z, .int .i64 u] 3).run Try.prog w = .ok (.int .i64 u) w := by intro x y z u w; simp [part, Try.isAgg3, go_sem]
  have hl : (Try.prog.fieldsOf 69).toList = [⟨"Kind", 3, 0, false, "", "", 0⟩, ⟨"Size", 3, 1, false, "", "", 8⟩, ⟨"Aux", 3, 2, false, "", "", 16⟩, ⟨"Mark", 3, 3, false, "", "", 24⟩] := by kernel_rfl
  rw [hl]
  by_cases h1 : k = k' <;> by_cases h2 : s = s' <;> by_cases h3 : a = a' <;> by_cases h4 : m = m' <;> simp [Op.eqFields, hE, h1, h2, h3, h4, p0, p1, p2, p3, q]
theorem eq_obj (k s a m k' s' a' m' : Int) (w : World) :
    (Op.equalIn 10000 69 (.agg #[.int .i64 k, .int .i64 s, .int .i64 a, .int .i64 m]) (.agg #[.int .i64 k', .int .i64 s', .int .i64 a', .int .i64 m'])).run Try.prog w = .ok (k == k' && s == s' && a == a' && m == m') w :=
  eq_obj' 9998 k s a m k' s' a' m' w

set_option maxHeartbeats 400000 in
set_option maxRecDepth 100000 in
theorem join_raw (k s a m : Int) (w : World) :
    Calls Try.prog 82 #[.agg #[.int .i64 k, .int .i64 s, .int .i64 a, .int .i64 m]] w fun e w' => e = .returned (.int .i64 (IntKind.i64.wrap (jn k s a m))) ∧ Below w.heap.size w w' := by
  go_enter Try.func82, Try.ntmps82
  go_wp2
  go_ret
  refine ⟨?_, (Below.refl _ w).alloc (Nat.le_refl _) _⟩
  refine ret_i64 ?_
  rw [IntKind.wrap_i64]
  unfold jn wrap64
  omega

/-- What is split off a word is the same as an object. -/
def again (w k s a m : Int) : Bool := kb w == k && sb w == s && ab w == a && mb w == m

theorem split_regrown (n : Int) (W : World) (d : Nat) (os : Array Obj) (h : InR n) :
    Calls Try.prog 83 #[.int .i64 n] (grow (redrawn W d) os) fun e w'' => e = .returned (.agg #[.int .i64 (kb n), .int .i64 (sb n), .int .i64 (ab n), .int .i64 (mb n)]) ∧ ∃ p : Regrown, w'' = grow (redrawn W p.d) p.os :=
  Calls.regrown_of (split_any n _ h)

theorem again_ok {k s a m w : Int} (h : Fit k s a m) (hw : w = jn k s a m) : again w k s a m = true := by
  obtain ⟨h1, h2, h3, h4⟩ := parts_of h hw
  unfold again; simp [h1, h2, h3, h4]
theorem again_bad {k s a m w : Int} (hk : ¬ (k < 0 ∨ 10 < k)) (h : ¬ Fit k s a m) : again w k s a m = false := by
  cases hq : again w k s a m with
  | false => rfl
  | true =>
    unfold again at hq
    simp only [Bool.and_eq_true, beq_iff_eq, and_assoc] at hq
    exact (h (fit_of w hk hq)).elim
theorem wrap_in (n : Int) : InR (IntKind.i64.wrap n) := by rw [IntKind.wrap_i64]; unfold InR; omega
theorem wrap_fit {k s a m : Int} (h : Fit k s a m) : IntKind.i64.wrap (jn k s a m) = jn k s a m := by
  have := jn_range h
  rw [IntKind.wrap_i64]; omega

set_option maxHeartbeats 400000 in
set_option maxRecDepth 100000 in
theorem pack_kind (k s a m : Int) (w : World) (h : k < 0 ∨ 10 < k) :
    Calls Try.prog 57 #[.agg #[.int .i64 k, .int .i64 s, .int .i64 a, .int .i64 m]] w fun e w' => e = .returned (.tuple #[.int .i64 0, .int .i64 6]) ∧ Below w.heap.size w w' := by
  by_cases h0 : k < 0
  · go_enter Try.func57, Try.ntmps57
    go_wp2
    go_ret2
    exact ⟨rfl, (Below.refl _ w).alloc (Nat.le_refl _) _⟩
  · have h1 : 10 < k := by omega
    clear h
    go_enter Try.func57, Try.ntmps57
    go_wp2
    go_ret2
    exact ⟨rfl, (Below.refl _ w).alloc (Nat.le_refl _) _⟩

set_option maxHeartbeats 400000 in
set_option maxRecDepth 100000 in
theorem pack_in (k s a m : Int) (w : World) (h : ¬ (k < 0 ∨ 10 < k)) (b : Bool) (J : Int) (hJ : IntKind.i64.wrap (jn k s a m) = J) (hb : again J k s a m = b) :
    Calls Try.prog 57 #[.agg #[.int .i64 k, .int .i64 s, .int .i64 a, .int .i64 m]] w fun e w' => e = .returned (.tuple #[.int .i64 (if b then J else 0), .int .i64 (if b then 0 else 1)]) ∧ Below w.heap.size w w' := by
  have h0 : 0 ≤ k := by omega
  have h1 : k ≤ 10 := by omega
  clear h
  have HJ : InR J := hJ ▸ wrap_in _
  have hX := box_new w (.int .i64 k) (.int .i64 s) (.int .i64 a) (.int .i64 m) 69
  have hB := (Below.refl w.heap.size w).alloc (Nat.le_refl _) (.cells #[.int .i64 k, .int .i64 s, .int .i64 a, .int .i64 m] 69)
  have hjoin := fun W => join_raw k s a m W
  rw [hJ] at hjoin
  have HC := Lib.hid hjoin
  have he := fun W => eq_obj (kb J) (sb J) (ab J) (mb J) k s a m W
  have hb' : (kb J == k && sb J == s && ab J == a && mb J == m) = b := hb
  rw [hb'] at he
  have HE := Lib.hid he
  have HI := Lib.hid HJ
  clear hJ hjoin hb hb' he HJ
  go_enter Try.func57, Try.ntmps57
  go_wp2_with fail
  generalize w.alloc (.cells #[.int .i64 k, .int .i64 s, .int .i64 a, .int .i64 m] 69) = W0 at hB hX ⊢
  refine (HC.out _).mono ?_
  rintro e x1 ⟨rfl, hb⟩
  replace hB := onB hB hb
  replace hX := hX.later hb
  clear hb HC
  obtain ⟨c0, c1, c2, c3, f0, f1, f2, f3, hl⟩ := hX
  go_wp2_with fail
  have k0 := cell_regrown c0
  have k1 := cell_regrown c1
  have k2 := cell_regrown c2
  have k3 := cell_regrown c3
  have he := HE.out
  refine wp_region_quiet_below (by kernel_rfl) (by kernel_rfl) ?_
  repeat (first | go_big_quiet_skip | (quiet_step (exact split_regrown _ _ _ _ HI.out)))
  refine wpQuiet_nil ?_
  intro _ hw'
  obtain ⟨⟨dq, osq⟩, hw''⟩ := hw'
  subst hw''
  have hE := onB hB (below_regrown x1 dq osq)
  clear k0 k1 k2 k3 hB he
  cases b
  · go_wp2
    go_ret2
    exact ⟨rfl, hE⟩
  · go_wp2
    go_ret2
    exact ⟨rfl, hE⟩

theorem pack_any (k s a m : Int) (w : World) :
    Calls Try.prog 57 #[.agg #[.int .i64 k, .int .i64 s, .int .i64 a, .int .i64 m]] w fun e w' => e = .returned (.tuple #[.int .i64 (pw k s a m), .int .i64 (pe k s a m)]) ∧ Below w.heap.size w w' := by
  by_cases h : k < 0 ∨ 10 < k
  · rw [pw_kind h, pe_kind h]
    exact pack_kind k s a m w h
  · by_cases hf : Fit k s a m
    · rw [pw_ok hf, pe_ok hf]
      exact pack_in k s a m w h true _ (wrap_fit hf) (again_ok hf rfl)
    · rw [pw_range h hf, pe_range h hf]
      exact pack_in k s a m w h false _ rfl (again_bad h hf)
end Go.Proofs.Ythcgmfcibjinlaa.Ce

/- A cell for an object of a size: of a class, or large. -/
namespace Go.Proofs.Ythcgmfcibjinlaa
open Go.RowKit

theorem spot_cov {lo hi n : Int} {L : List (Int × Int)} (hG : Ex.Good lo hi L) (hn : 1 ≤ n) (he : Ex.tErr n L = 0) : lo ≤ Ex.tAt n L ∧ Ex.tAt n L + n ≤ hi ∧ ∀ m, Ex.tAt n L ≤ m → m < Ex.tAt n L + n → Ex.Cov L m := by
  rcases Ex.spot_cases n L with h | ⟨A, a, k, B, rfl, hA, hk⟩
  · unfold Ex.tErr at he
    rw [if_neg (by omega), Ex.spot_none h] at he
    simp at he
  · have e : Ex.tAt n (A ++ (a, k) :: B) = a := by
      unfold Ex.tAt
      rw [if_neg (by omega), Ex.spot_some hA hk]
      rfl
    rw [e]
    have hm : ((a, k) : Int × Int) ∈ A ++ (a, k) :: B := by simp
    have hb := Ex.good_mem hG hm
    simp only at hb
    exact ⟨hb.1, by omega, fun m h1 h2 => ⟨_, hm, by simp only; omega, by simp only; omega⟩⟩

/-- The room has been asked. -/
theorem HLies.setRoom {x : HSpot} {T : Nat → Nat} {D : Nat → Int} {R : Nat → Rows} {top par : Int} {L M : List (Int × Int)} {w w' : World} {cb g g' : Nat} (h : HLies x T D R top par L w) (hT : Tags x T cb g) (hR : Ex.Room w' x.rp g' x.lim (x.n - x.lim : Int) M) (hq : Ex.Apart x.rp g w w') (hg : g' = g ∨ w.heap.size ≤ g')
    (hgl : g < w.heap.size) (hc : ∃ cap, w.cell? ⟨x.h, 1, none⟩ = some (.slice (some ⟨cb, 0, none⟩) x.k cap)) (hcs : ∀ i, i < x.k → w.cell? ⟨cb, i * 2, none⟩ = some (.int .i64 (x.sz i)) ∧ w.cell? ⟨cb, i * 2 + 1, none⟩ = some (.pointer (some ⟨(x.S i).r, 0, none⟩))) (hrl : x.rp < w.heap.size) :
    ∃ T', HLies x T' D R top par M w' ∧ HTurn T T' w w' := by
  obtain ⟨cap, hc⟩ := hc
  obtain ⟨u, hu⟩ := h.at
  have nr : ∀ b, T b ≠ 4 → b ≠ x.rp ∧ b ≠ g := fun b hb => ⟨fun e => hb (by rw [e]; exact hT.rp), fun e => hb (by rw [e]; exact hT.g)⟩
  have hk : ∀ b, b < w.heap.size → T b ≠ 4 → w'.heap[b]? = w.heap[b]? := fun b hl hb => hq.block b hl (nr b hb).1 (nr b hb).2
  have o : ∀ (b j : Nat) (v : Value), T b ≠ 4 → w.cell? ⟨b, j, none⟩ = some v → w'.cell? ⟨b, j, none⟩ = some v := fun b j v hb hv => (World.cell?_of_block (w := w) (hk b (World.block_lt_of_cell? _ _ hv) hb)).trans hv
  have t : ∀ b, b < w.heap.size → (fun b => if b < w.heap.size then T b else 4) b = T b := fun b hb => if_pos hb
  have h0 : T x.h ≠ 4 := by rw [hT.h]; omega
  have hA : At w' x.p x.d x.n D u := hu.move (hk _ hu.lp (by rw [hT.p]; omega)) (hk _ hu.ld (by rw [hT.d]; omega)) hq.size
  have lcb : cb < w.heap.size := World.block_lt_of_cell? _ _ (hcs 0 (by have := h.k1; omega)).1
  refine ⟨fun b => if b < w.heap.size then T b else 4, ⟨o _ _ _ h0 h.arena, o _ _ _ h0 h.large, o _ _ _ h0 h.room, o _ _ _ h0 h.top, o _ _ _ h0 h.lim, o _ _ _ h0 h.par, fun j => (World.frozen?_of_block (w := w) (hk x.h h.lh h0)).trans (h.fz j), fun i hi => ?_, h.sp, h.k1, h.k6,
    cb, cap, g', ⟨(t _ h.lh).trans hT.h, (t _ lcb).trans hT.cb, (t _ hu.lp).trans hT.p, (t _ hu.ld).trans hT.d, (t _ hrl).trans hT.rp, ?_, fun i hi b hb => (t _ ((h.rings i hi).under.2.2 b hb)).trans (hT.s i hi b hb)⟩, o _ _ _ h0 hc, fun i hi => ⟨o _ _ _ (by rw [hT.cb]; omega) (hcs i hi).1, o _ _ _ (by rw [hT.cb]; omega) (hcs i hi).2⟩, hR⟩,
    hq.os, hq.tape, hq.output, hq.size, fun b hl hb => ⟨(t b hl).trans hb, hk b hl (by omega)⟩⟩
  · obtain ⟨e1, e2, e3⟩ := h.sp i hi
    exact (h.rings i hi).anew hq.size (fun b hb => hk b ((h.rings i hi).under.2.2 b hb) (by rw [hT.s i hi b hb]; omega)) ⟨u, by rw [e1, e2, e3]; exact hA⟩ (fun _ _ => rfl)
  · rcases hg with rfl | hg
    · exact (t _ hgl).trans hT.g
    · exact if_neg (by omega)

theorem TakenOf.before {x : HSpot} {T : Nat → Nat} {D : Nat → Int} {R : Nat → Rows} {top par : Int} {L : List (Int × Int)} {i : Nat} {w W : World} {e : Ending} {w' : World} (h : TakenOf x T D R top par L i W e w') (hb : HTurn T T w W) : TakenOf x T D R top par L i w e w' := by
  cases h with
  | white c l hw he h ht => exact .white c l hw he h (hb.trans ht)
  | fresh D' hw hr he h hD ht => exact .fresh D' hw hr he h hD (hb.trans ht)
  | full hw hr he h ht => exact .full hw hr he h (hb.trans ht)

/-- What take does. -/
inductive Taken (x : HSpot) (T : Nat → Nat) (D : Nat → Int) (R : Nat → Rows) (top par : Int) (L : List (Int × Int)) (size : Int) (w : World) (e : Ending) (w' : World) : Prop
  | small (i : Nat) (hC : Cls x.sz x.k size i) (hi : i < x.k) (h : TakenOf x T D R top par L i w e w')
  | big (hC : Cls x.sz x.k size x.k) (he : Ex.tErr (size + 3) L = 0) (T' : Nat → Nat) (D' : Nat → Int) (M : List (Int × Int)) (hr : e = .returned (.tuple #[.int .i64 (Ex.tAt (size + 3) L), .int .i64 0]))
      (h : HLies x T' D' (put1 R x.k ((R x.k).grow (Ex.tAt (size + 3) L)).alloc) top par M w') (hD : SameBut ((R x.k).grow (Ex.tAt (size + 3) L)) D D') (hM : Ex.Took x.lim (x.lim + (x.n - x.lim : Int)) (size + 3) L M) (ht : HTurn T T' w w')
  | none (hC : Cls x.sz x.k size x.k) (he : Ex.tErr (size + 3) L ≠ 0) (T' : Nat → Nat) (hr : e = .returned (.tuple #[.int .i64 (Ex.tAt (size + 3) L), .int .i64 (Ex.tErr (size + 3) L)])) (h : HLies x T' D R top par L w') (ht : HTurn T T' w w')

end Go.Proofs.Ythcgmfcibjinlaa

/- What holds of a heap's cells; take. -/
namespace Go.Proofs.Ythcgmfcibjinlaa
open Go.RowKit

/-- How many words a cell has. -/
def wid (x : HSpot) (D : Nat → Int) (i : Nat) (a : Int) : Int := (if i < x.k then x.sz i else Ce.sb (D a.toNat)) + 3
theorem sb_nonneg (w : Int) : 0 ≤ Ce.sb w := by unfold Ce.sb; omega
/-- What holds of a heap's cells. -/
structure HInv (x : HSpot) (D : Nat → Int) (R : Nat → Rows) (top : Int) (L : List (Int × Int)) : Prop where
  t0 : 1 ≤ top
  t1 : top ≤ x.lim
  ln : x.lim ≤ x.n
  n6 : x.n ≤ 65536
  sz : ∀ i, i < x.k → 1 ≤ x.sz i ∧ x.sz i ≤ 24
  one : ∀ i, i ≤ x.k → ∀ a, a ∈ (R i).all → 1 ≤ a
  cell : ∀ i, i < x.k → ∀ a, a ∈ (R i).all → a + x.sz i + 3 ≤ top
  big : ∀ a, a ∈ (R x.k).all → x.lim ≤ a ∧ a + wid x D x.k a ≤ x.n ∧ ∀ m, a ≤ m → m < a + wid x D x.k a → ¬ Ex.Cov L m
  apart : ∀ i, i ≤ x.k → ∀ j, j ≤ x.k → ∀ a, a ∈ (R i).all → ∀ b, b ∈ (R j).all → (i = j → a ≠ b) → a + wid x D i a ≤ b ∨ b + wid x D j b ≤ a
  len : ∀ i, i ≤ x.k → (R i).all.length < 1000

theorem wid_three {x : HSpot} {D : Nat → Int} {R : Nat → Rows} {top : Int} {L : List (Int × Int)} (h : HInv x D R top L) (i : Nat) (a : Int) : 3 ≤ wid x D i a := by
  unfold wid
  by_cases g : i < x.k
  · have := h.sz i g
    rw [if_pos g]
    omega
  · have := sb_nonneg (D a.toNat)
    rw [if_neg g]
    omega
theorem HInv.far {x : HSpot} {D : Nat → Int} {R : Nat → Rows} {top : Int} {L : List (Int × Int)} (h : HInv x D R top L) : Far x.k R := by
  intro i hi j hj hij a ha b hb
  have := h.apart i hi j hj a ha b hb (fun e => absurd e hij)
  have h1 := wid_three h i a
  have h2 := wid_three h j b
  omega

set_option maxHeartbeats 4000000 in
set_option maxRecDepth 100000 in
theorem take_any (x : HSpot) (T : Nat → Nat) (D : Nat → Int) (R : Nat → Rows) (top par : Int) (L : List (Int × Int)) (w : World) (h : HLies x T D R top par L w) (hI : HInv x D R top L) (size : Int) (hs : 0 ≤ size ∧ size ≤ 31) :
    Calls Try.prog 58 #[.pointer (some ⟨x.h, 0, none⟩), .int .i64 size] w (Taken x T D R top par L size w) := by
  obtain ⟨i, hC⟩ := cls_ex x.sz x.k size
  have H := Lib.hid h
  have HI := Lib.hid hI
  have H1 := Lib.hid (class_for x T D R top par L w h size i hC)
  have e1 : IntKind.i64.wrap (size + 3) = size + 3 := by rw [IntKind.wrap_i64]; omega
  clear h hI
  go_enter Try.func58, Try.ntmps58
  go_wp2_with fail
  refine H1.out.mono ?_
  rintro e w2 ⟨rfl, hb⟩
  have HB := Lib.hid (And.intro hb (H.out.later hb))
  clear hb H1
  by_cases hi : i < x.k
  · rw [if_pos hi]
    go_wp2_with fail
    have hx := (Below.refl w2.heap.size w2).alloc (Nat.le_refl _) (.cells #[.int .i64 (x.sz i), .pointer (some ⟨(x.S i).r, 0, none⟩)] 101)
    have HX := Lib.hid (And.intro (onB' HB.out.1 hx) (HB.out.2.later hx))
    generalize (w2.alloc (.cells #[.int .i64 (x.sz i), .pointer (some ⟨(x.S i).r, 0, none⟩)] 101)) = W at *
    clear hx
    refine (take_of x T D R top par L W HX.out.2 i hi (HI.out.sz i hi) HI.out.t0 HI.out.t1 HI.out.ln HI.out.n6 HI.out.far (fun j hj a ha => by have := HI.out.cell j hj a ha; have := HI.out.sz j hj; omega) (fun a ha => (HI.out.big a ha).1) (HI.out.len i (by omega))).mono ?_
    intro e w3 h3
    have h4 := h3.before (HTurn.of_below HX.out.1)
    clear h3
    obtain ⟨va, vb, he⟩ : ∃ a b : Int, e = .returned (.tuple #[.int .i64 a, .int .i64 b]) := by
      cases h4 with
      | white c l hw he h ht => exact ⟨_, _, he⟩
      | fresh D' hw hr he h hD ht => exact ⟨_, _, he⟩
      | full hw hr he h ht => exact ⟨_, _, he⟩
    subst he
    have H4 := Lib.hid h4
    clear h4
    go_wp2_with fail
    refine bodyPost_ret (v := .tuple #[.int .i64 va, .int .i64 vb]) (by simp [results, Try.results58, go_sem]) rfl ?_
    exact .small i hC hi H4.out
  · rw [if_neg hi]
    obtain rfl : i = x.k := by have := hC.le; omega
    have hx := (Below.refl w2.heap.size w2).alloc (Nat.le_refl _) (.cells #[.int .i64 0, .pointer none] 101)
    have c3 := later' hx HB.out.2.room
    have HX := Lib.hid (And.intro (onB' HB.out.1 hx) (HB.out.2.later hx))
    go_wp2_with fail
    generalize (w2.alloc (.cells #[.int .i64 0, .pointer none] 101)) = W at *
    clear hx c3 HB
    obtain ⟨cb, cap, g, hT, hc, hcs, hRm⟩ := HX.out.2.rest
    have hgl := hRm.lg
    have hrl := hRm.lp
    have hgood := hRm.good
    refine (Ex.room_take x.rp g x.lim (x.n - x.lim : Int) (size + 3) L W hRm).mono ?_
    rintro e w3 ⟨rfl, g', M, hR', hTk, hq, hg'⟩
    obtain ⟨T', h', t'⟩ := HX.out.2.setRoom hT hR' hq hg' hgl ⟨cap, hc⟩ hcs hrl
    have H3 := Lib.hid (And.intro h' (And.intro ((HTurn.of_below HX.out.1).trans t') hTk))
    have HG := Lib.hid hgood
    clear hT hc hcs hRm hR' hq hg' h' t' hTk hgood
    by_cases g0 : Ex.tErr (size + 3) L = 0
    · have hsp := spot_cov HG.out (by omega) g0
      have HS := Lib.hid hsp
      rw [g0]
      clear hsp
      generalize hat : Ex.tAt (size + 3) L = at' at *
      have c2 := H3.out.1.large
      go_wp2_with fail
      have hfar3 : ∀ a, a ∈ (R x.k).all → a + 3 ≤ at' ∨ at' + 3 ≤ a := fun a ha => by
        have h1 := (HI.out.big a ha).2.2
        have h2 := wid_three HI.out x.k a
        have h3 := HS.out.2.2
        by_cases q1 : a < at'
        · by_cases q2 : a + 3 ≤ at'
          · exact Or.inl q2
          · exact absurd (h3 at' (by omega) (by omega)) (h1 at' (by omega) (by omega))
        · by_cases q2 : at' + 3 ≤ a
          · exact Or.inr q2
          · exact absurd (h3 a (by omega) (by omega)) (h1 a (by omega) (by omega))
      have hlo := HS.out.1
      have hhi := HS.out.2.1
      have t0 := HI.out.t0
      have t1 := HI.out.t1
      have hfit : Fit (x.S x.k).n (at' :: (R x.k).all) := by
        have hf := (H3.out.1.rings x.k (Nat.le_refl _)).fit
        have e3 := (H3.out.1.sp x.k (Nat.le_refl _)).2.2
        rw [e3] at hf ⊢
        refine ⟨fun a ha => ?_, List.pairwise_cons.2 ⟨fun a ha => (hfar3 a ha).symm, hf.far⟩⟩
        rcases List.mem_cons.1 ha with rfl | ha
        · exact ⟨by omega, by omega⟩
        · exact hf.rng a ha
      refine (enter_ring (x.S x.k) (R x.k) D w3 (H3.out.1.rings x.k (Nat.le_refl _)) at' hfit (HI.out.len x.k (Nat.le_refl _))).mono ?_
      rintro e w4 ⟨rfl, ⟨D', h5, h6⟩, ht⟩
      have hfar : ∀ j, j ≤ x.k → j ≠ x.k → ∀ a, a ∈ ((R x.k).grow at').all → ∀ b, b ∈ (R j).all → a + 3 ≤ b ∨ b + 3 ≤ a := by
        intro j hj hji a ha b hb
        rcases List.mem_cons.1 (show a ∈ at' :: (R x.k).all from ha) with rfl | ha
        · have := HI.out.cell j (by omega) b hb
          have := HI.out.sz j (by omega)
          exact Or.inr (by omega)
        · exact HI.out.far x.k (Nat.le_refl _) j hj (Ne.symm hji) a ha b hb
      have H5 := Lib.hid (And.intro (H3.out.1.ring (Nat.le_refl _) h5 ht (far_links hfar h6)) h6)
      clear h5 h6 ht hfar hfit hfar3 hlo hhi c2
      go_wp2_with fail
      refine bodyPost_ret (v := .tuple #[.int .i64 at', .int .i64 0]) (by simp [results, Try.results58, go_sem]) rfl ?_
      subst hat
      exact .big hC g0 T' D' M rfl H5.out.1.1 H5.out.2 H3.out.2.2 (H3.out.2.1.trans H5.out.1.2)
    · have e2 : (Ex.tErr (size + 3) L != 0) = true := by simpa using g0
      have hML : M = L := by
        obtain ⟨h1, h2, -⟩ := H3.out.2.2
        exact Ex.good_unique h1 HG.out fun m => by
          rw [h2]
          exact ⟨fun h => h.1, fun h => ⟨h, fun h0 => absurd h0 g0⟩⟩
      subst hML
      have hat : Ex.tAt (size + 3) M = 0 := by
        unfold Ex.tAt
        rw [if_neg (by omega)]
        unfold Ex.tErr at g0
        rw [if_neg (by omega)] at g0
        cases hsp : Ex.spot (size + 3) M with
        | none => rfl
        | some a => rw [hsp] at g0; exact absurd rfl g0
      have HA := Lib.hid hat
      generalize hte : Ex.tErr (size + 3) M = te at *
      go_wp2_with fail
      refine bodyPost_ret (v := .tuple #[.int .i64 0, .int .i64 te]) (by simp [results, Try.results58, go_sem]) rfl ?_
      subst hte
      exact .none hC g0 T' (by rw [HA.out]) H3.out.1 H3.out.2.1

end Go.Proofs.Ythcgmfcibjinlaa

/- What a take gives, in one shape; what holds of the cells behind it. -/
namespace Go.Proofs.Ythcgmfcibjinlaa
open Go.RowKit

/-- Which cell an object is given. -/
inductive AllocP (x : HSpot) (R : Nat → Rows) (top : Int) (L : List (Int × Int)) (size at' : Int) (R' : Nat → Rows) (top' : Int) (M : List (Int × Int)) : Prop
  | white (i : Nat) (hC : Cls x.sz x.k size i) (hi : i < x.k) (l : List Int) (hw : (R i).white = at' :: l) (hR : R' = put1 R i (R i).alloc) (ht : top' = top) (hM : M = L)
  | fresh (i : Nat) (hC : Cls x.sz x.k size i) (hi : i < x.k) (hw : (R i).white = []) (hr : top + x.sz i + 3 ≤ x.lim) (ha : at' = top) (hR : R' = put1 R i ((R i).grow at').alloc) (ht : top' = top + x.sz i + 3) (hM : M = L)
  | big (hC : Cls x.sz x.k size x.k) (he : Ex.tErr (size + 3) L = 0) (ha : at' = Ex.tAt (size + 3) L) (hR : R' = put1 R x.k ((R x.k).grow at').alloc) (ht : top' = top) (hM : Ex.Took x.lim (x.lim + (x.n - x.lim : Int)) (size + 3) L M)
/-- There is no cell for it. -/
def FullP (x : HSpot) (R : Nat → Rows) (top : Int) (L : List (Int × Int)) (size : Int) : Prop :=
  (∃ i, Cls x.sz x.k size i ∧ i < x.k ∧ (R i).white = [] ∧ x.lim < top + x.sz i + 3) ∨ (Cls x.sz x.k size x.k ∧ Ex.tErr (size + 3) L ≠ 0)

theorem grown_mem {R : Rows} {c a : Int} : a ∈ (R.grow c).alloc.all ↔ a = c ∨ a ∈ R.all := by
  unfold Rows.all Rows.alloc Rows.grow
  simp only [List.tail_cons, List.take_succ_cons, List.take_zero, List.mem_append, List.mem_cons, List.not_mem_nil, or_false]
  constructor
  · rintro (h | h | h | h | h)
    · exact Or.inr (Or.inl h)
    · exact Or.inr (Or.inr (Or.inl h))
    · exact Or.inr (Or.inr (Or.inr (Or.inl h)))
    · exact Or.inr (Or.inr (Or.inr (Or.inr h)))
    · exact Or.inl h
  · rintro (h | h | h | h | h)
    · exact Or.inr (Or.inr (Or.inr (Or.inr h)))
    · exact Or.inl h
    · exact Or.inr (Or.inl h)
    · exact Or.inr (Or.inr (Or.inl h))
    · exact Or.inr (Or.inr (Or.inr (Or.inl h)))
theorem alloced_mem {R : Rows} {c a : Int} {l : List Int} (hw : R.white = c :: l) : a ∈ R.alloc.all ↔ a ∈ R.all := by
  unfold Rows.all Rows.alloc
  rw [hw]
  simp only [List.tail_cons, List.take_succ_cons, List.take_zero, List.mem_append, List.mem_cons, List.not_mem_nil, or_false]
  constructor
  · rintro (h | h | h | h | h)
    · exact Or.inl (Or.inr h)
    · exact Or.inr (Or.inl h)
    · exact Or.inr (Or.inr (Or.inl h))
    · exact Or.inr (Or.inr (Or.inr h))
    · exact Or.inl (Or.inl h)
  · rintro ((h | h) | h | h | h)
    · exact Or.inr (Or.inr (Or.inr (Or.inr h)))
    · exact Or.inl h
    · exact Or.inr (Or.inl h)
    · exact Or.inr (Or.inr (Or.inl h))
    · exact Or.inr (Or.inr (Or.inr (Or.inl h)))
theorem grown_len {R : Rows} {c : Int} : (R.grow c).alloc.all.length = R.all.length + 1 := by
  unfold Rows.all Rows.alloc Rows.grow
  simp
  omega
theorem alloced_len {R : Rows} {c : Int} {l : List Int} (hw : R.white = c :: l) : R.alloc.all.length = R.all.length := by
  unfold Rows.all Rows.alloc
  rw [hw]
  simp
  omega

/-- Which ring has it, and which cells there are. -/
theorem AllocP.cells {x : HSpot} {R : Nat → Rows} {top : Int} {L : List (Int × Int)} {size at' : Int} {R' : Nat → Rows} {top' : Int} {M : List (Int × Int)} (h : AllocP x R top L size at' R' top' M) :
    ∃ i, i ≤ x.k ∧ Cls x.sz x.k size i ∧ at' ∈ (R' i).all ∧ (∀ j, j ≠ i → R' j = R j) ∧ (∀ a, a ∈ (R' i).all ↔ a = at' ∨ a ∈ (R i).all) ∧ (R' i).all.length ≤ (R i).all.length + 1 := by
  cases h with
  | white i hC hi l hw hR ht hM =>
    have e : R' i = (R i).alloc := by rw [hR]; exact if_pos rfl
    have hm : at' ∈ (R i).all := List.mem_append_left _ (by rw [hw]; exact List.mem_cons_self ..)
    refine ⟨i, Nat.le_of_lt hi, hC, ?_, fun j hj => by rw [hR]; exact if_neg hj, fun a => ?_, ?_⟩
    · rw [e, alloced_mem hw]; exact hm
    · rw [e, alloced_mem hw]
      exact ⟨Or.inr, fun h => h.elim (fun e => e ▸ hm) id⟩
    · rw [e, alloced_len hw]; omega
  | fresh i hC hi hw hr ha hR ht hM =>
    have e : R' i = ((R i).grow at').alloc := by rw [hR]; exact if_pos rfl
    refine ⟨i, Nat.le_of_lt hi, hC, ?_, fun j hj => by rw [hR]; exact if_neg hj, fun a => ?_, ?_⟩
    · rw [e, grown_mem]; exact Or.inl rfl
    · rw [e, grown_mem]
    · rw [e, grown_len]; omega
  | big hC he ha hR ht hM =>
    have e : R' x.k = ((R x.k).grow at').alloc := by rw [hR]; exact if_pos rfl
    refine ⟨x.k, Nat.le_refl _, hC, ?_, fun j hj => by rw [hR]; exact if_neg hj, fun a => ?_, ?_⟩
    · rw [e, grown_mem]; exact Or.inl rfl
    · rw [e, grown_mem]
    · rw [e, grown_len]; omega

/-- What a take gives, in one shape. -/
def Gets (x : HSpot) (T : Nat → Nat) (D : Nat → Int) (R : Nat → Rows) (top par : Int) (L : List (Int × Int)) (size : Int) (w : World) (e : Ending) (w' : World) : Prop :=
  (∃ (at' : Int) (T' : Nat → Nat) (D1 : Nat → Int) (R' : Nat → Rows) (top' : Int) (M : List (Int × Int)), e = .returned (.tuple #[.int .i64 at', .int .i64 0]) ∧ HLies x T' D1 R' top' par M w' ∧ HTurn T T' w w' ∧
    AllocP x R top L size at' R' top' M ∧ ∀ m, (∀ i, i ≤ x.k → ¬ Links (R' i) m) → D1 m = D m) ∨
  (∃ T', e = .returned (.tuple #[.int .i64 0, .int .i64 2]) ∧ HLies x T' D R top par L w' ∧ HTurn T T' w w' ∧ FullP x R top L size)
theorem Taken.gets {x : HSpot} {T : Nat → Nat} {D : Nat → Int} {R : Nat → Rows} {top par : Int} {L : List (Int × Int)} {size : Int} {w : World} {e : Ending} {w' : World} (hs : 0 ≤ size) (h : Taken x T D R top par L size w e w') : Gets x T D R top par L size w e w' := by
  cases h with
  | small i hC hi h =>
    cases h with
    | white c l hw he h ht => exact Or.inl ⟨c, T, D, _, _, _, he, h, ht, .white i hC hi l hw rfl rfl rfl, fun _ _ => rfl⟩
    | fresh D' hw hr he h hD ht =>
      refine Or.inl ⟨top, T, D', _, _, _, he, h, ht, .fresh i hC hi hw hr rfl rfl rfl rfl, fun m hm => hD m ?_⟩
      have := hm i (by omega)
      unfold put1 at this
      rw [if_pos rfl] at this
      rintro ⟨a, ha, h2⟩
      exact this ⟨a, grown_mem.2 (List.mem_cons.1 (show a ∈ top :: (R i).all from ha)), h2⟩
    | full hw hr he h ht => exact Or.inr ⟨T, he, h, ht, Or.inl ⟨i, hC, hi, hw, hr⟩⟩
  | big hC he T' D' M hr h hD hM ht =>
    refine Or.inl ⟨_, T', D', _, _, _, hr, h, ht, .big hC he rfl rfl rfl hM, fun m hm => hD m ?_⟩
    have := hm x.k (Nat.le_refl _)
    unfold put1 at this
    rw [if_pos rfl] at this
    rintro ⟨a, ha, h2⟩
    exact this ⟨a, grown_mem.2 (List.mem_cons.1 (show a ∈ _ :: (R x.k).all from ha)), h2⟩
  | none hC he T' hr h ht =>
    refine Or.inr ⟨T', ?_, h, ht, Or.inr ⟨hC, he⟩⟩
    rw [hr]
    unfold Ex.tErr at he ⊢
    unfold Ex.tAt
    rw [if_neg (by omega)] at he ⊢
    rw [if_neg (by omega)]
    cases hsp : Ex.spot (size + 3) L with
    | none => rfl
    | some a => rw [hsp] at he; exact absurd rfl he

/-- How large the new cell is, and where it may lie. -/
theorem AllocP.room {x : HSpot} {D : Nat → Int} {R : Nat → Rows} {top : Int} {L : List (Int × Int)} {size at' : Int} {R' : Nat → Rows} {top' : Int} {M : List (Int × Int)} (h : AllocP x R top L size at' R' top' M) (hI : HInv x D R top L) (hG : Ex.Good x.lim (x.lim + (x.n - x.lim : Int)) L) (hs : 0 ≤ size) :
    1 ≤ at' ∧ at' + size + 3 ≤ x.n ∧ ∀ i, i ≤ x.k → ∀ c, c ∈ (R' i).all → c = at' ∨ c + 3 ≤ at' ∨ at' + size + 3 ≤ c := by
  have t0 := hI.t0
  have t1 := hI.t1
  have ln := hI.ln
  cases h with
  | white i hC hi l hw hR ht hM =>
    have hm : at' ∈ (R i).all := List.mem_append_left _ (by rw [hw]; exact List.mem_cons_self ..)
    have h1 := hI.cell i hi at' hm
    have h2 := hC.fits hi
    refine ⟨hI.one i (by omega) at' hm, by omega, fun j hj c hc => ?_⟩
    have hc' : c ∈ (R j).all := by
      rw [hR] at hc
      unfold put1 at hc
      by_cases e : j = i
      · rw [if_pos e, alloced_mem hw] at hc
        rw [e]; exact hc
      · rwa [if_neg e] at hc
    by_cases e : c = at'
    · exact Or.inl e
    · have h3 := hI.apart j hj i (by omega) c hc' at' hm (fun _ => e)
      have h4 := wid_three hI j c
      have h5 : wid x D i at' = x.sz i + 3 := by unfold wid; rw [if_pos hi]
      omega
  | fresh i hC hi hw hr ha hR ht hM =>
    have h2 := hC.fits hi
    refine ⟨by omega, by omega, fun j hj c hc => ?_⟩
    rw [hR] at hc
    unfold put1 at hc
    have key : ∀ j, j ≤ x.k → c ∈ (R j).all → c = at' ∨ c + 3 ≤ at' ∨ at' + size + 3 ≤ c := fun j hj hc => by
      by_cases ek : j = x.k
      · subst ek
        have := (hI.big c hc).1
        omega
      · have := hI.cell j (by omega) c hc
        have := hI.sz j (by omega)
        omega
    by_cases e : j = i
    · rw [if_pos e, grown_mem] at hc
      rcases hc with hc | hc
      · exact Or.inl hc
      · exact key i (by omega) hc
    · rw [if_neg e] at hc
      exact key j hj hc
  | big hC he ha hR ht hM =>
    obtain ⟨s1, s2, s3⟩ := spot_cov hG (by omega) he
    rw [← ha] at s1 s2 s3
    refine ⟨by omega, by omega, fun j hj c hc => ?_⟩
    rw [hR] at hc
    unfold put1 at hc
    have key : c ∈ (R x.k).all → c = at' ∨ c + 3 ≤ at' ∨ at' + size + 3 ≤ c := fun hc => by
      have h1 := (hI.big c hc).2.2
      have h2 := wid_three hI x.k c
      by_cases q1 : c < at'
      · by_cases q2 : c + 3 ≤ at'
        · exact Or.inr (Or.inl q2)
        · exact absurd (s3 at' (by omega) (by omega)) (h1 at' (by omega) (by omega))
      · by_cases q2 : at' + size + 3 ≤ c
        · exact Or.inr (Or.inr q2)
        · exact absurd (s3 c (by omega) (by omega)) (h1 c (by omega) (by omega))
    by_cases e : j = x.k
    · rw [if_pos e, grown_mem] at hc
      rcases hc with hc | hc
      · exact Or.inl hc
      · exact key hc
    · rw [if_neg e] at hc
      have := hI.cell j (by omega) c hc
      have := hI.sz j (by omega)
      omega

end Go.Proofs.Ythcgmfcibjinlaa

/- Alloc. -/
namespace Go.Proofs.Ythcgmfcibjinlaa
open Go.RowKit

/-- An object's words have been written: what it is, and noughts. -/
structure Wrote (x : HSpot) (R' : Nat → Rows) (D D' : Nat → Int) (at' size word : Int) : Prop where
  hd : D' at'.toNat = word
  zero : ∀ k, 0 ≤ k → k < size → D' (at' + 3 + k).toNat = 0
  keep : ∀ m : Nat, ((m : Int) < at' ∨ at' + size + 3 ≤ m) → (∀ i, i ≤ x.k → ¬ Links (R' i) m) → D' m = D m

/-- What Alloc does, by what Pack tells. -/
def AllocsE (pe pw : Int) (x : HSpot) (T : Nat → Nat) (D : Nat → Int) (R : Nat → Rows) (top par : Int) (L : List (Int × Int)) (size : Int) (w : World) (e : Ending) (w' : World) : Prop :=
  (pe ≠ 0 ∧ e = .returned (.tuple #[.int .i64 0, .int .i64 pe]) ∧ HLies x T D R top par L w' ∧ HTurn T T w w') ∨
  (pe = 0 ∧ ∃ (at' : Int) (T' : Nat → Nat) (D' : Nat → Int) (R' : Nat → Rows) (top' : Int) (M : List (Int × Int)), e = .returned (.tuple #[.int .i64 at', .int .i64 0]) ∧ HLies x T' D' R' top' par M w' ∧ HTurn T T' w w' ∧
    AllocP x R top L size at' R' top' M ∧ Wrote x R' D D' at' size pw) ∨
  (pe = 0 ∧ ∃ T', e = .returned (.tuple #[.int .i64 0, .int .i64 2]) ∧ HLies x T' D R top par L w' ∧ HTurn T T' w w' ∧ FullP x R top L size)

theorem clear_link {k : Nat} {R : Nat → Rows} {at' size : Int} (hs : 0 ≤ size) (hc : ∀ i, i ≤ k → ∀ c, c ∈ (R i).all → c = at' ∨ c + 3 ≤ at' ∨ at' + size + 3 ≤ c) {i : Nat} (hi : i ≤ k) {m : Nat} (hl : Links (R i) m) : (m : Int) ≠ at' ∧ ∀ j, 0 ≤ j → j < size → (m : Int) ≠ at' + 3 + j := by
  obtain ⟨c, hm, h⟩ := hl
  have := hc i hi c hm
  exact ⟨by omega, fun j h1 h2 => by omega⟩

set_option maxHeartbeats 8000000 in
set_option maxRecDepth 100000 in
theorem alloc_any (x : HSpot) (T : Nat → Nat) (D : Nat → Int) (R : Nat → Rows) (top par : Int) (L : List (Int × Int)) (w : World) (h : HLies x T D R top par L w) (hI : HInv x D R top L) (kind aux size : Int) :
    Calls Try.prog 21 #[.pointer (some ⟨x.h, 0, none⟩), .int .i64 kind, .int .i64 aux, .int .i64 size] w (AllocsE (Ce.pe kind size aux par) (Ce.pw kind size aux par) x T D R top par L size w) := by
  have c6 := h.par
  have hG : Ex.Good x.lim (x.lim + (x.n - x.lim : Int)) L := by
    obtain ⟨cb, cap, g, -, -, -, hR⟩ := h.rest
    exact hR.good
  have hp := fun w => Ce.pack_any kind size aux par w
  have H := Lib.hid h
  have HI := Lib.hid hI
  have HG := Lib.hid hG
  have HP := Lib.hid hp
  have hfit : Ce.pe kind size aux par = 0 → 0 ≤ size ∧ size ≤ 31 := fun e => ((Ce.pe_fit _ _ _ _).1 e).2.1
  have HFT := Lib.hid hfit
  clear h hI hG hp hfit
  generalize Ce.pe kind size aux par = pe at *
  generalize Ce.pw kind size aux par = pw at *
  go_enter Try.func21, Try.ntmps21
  go_wp2_with fail
  refine (HP.out w).mono ?_
  rintro e w2 ⟨rfl, hb⟩
  have HB := Lib.hid (And.intro hb (H.out.later hb))
  clear hb c6
  by_cases g0 : pe = 0
  · subst g0
    obtain ⟨s0, s1⟩ := HFT.out rfl
    go_wp2_with fail
    refine (take_any x T D R top par L w2 HB.out.2 HI.out size ⟨s0, s1⟩).mono ?_
    intro e w3 h3
    rcases h3.gets s0 with ⟨at', T', D1, R', top', M, rfl, h4, t4, hA, hk⟩ | ⟨T', rfl, h4, t4, hF⟩
    · have hrm := hA.room HI.out HG.out s0
      have H4 := Lib.hid (And.intro h4 (And.intro ((HTurn.of_below HB.out.1).trans t4) (And.intro hA (And.intro hk hrm))))
      have a1 := hrm.1
      have a2 := hrm.2.1
      have hn := HI.out.n6
      clear h3 h4 t4 hA hk hrm
      obtain ⟨u, hu⟩ := H4.out.1.at
      have c0 := H4.out.1.arena
      have HU := Lib.hid hu
      clear hu
      go_wp2_with fail
      refine (store_in x.p x.d x.n D1 u at' pw w3 HU.out (by omega) (by omega)).mono ?_
      rintro e w5 ⟨rfl, hA5, hq⟩
      obtain ⟨h5, t5⟩ := H4.out.1.words hA5 hq (fun i hi m hm => if_neg (by have := (clear_link s0 H4.out.2.2.2.2.2.2 hi hm).1; omega))
      have HW : Hid (HLies x T' (fun k => if k = at'.toNat then pw else D1 k) R' top' par M w5 ∧ HTurn T T' w w5) := ⟨h5, H4.out.2.1.trans t5⟩
      clear hA5 hq h5 t5 c0 HU
      obtain ⟨s, rfl⟩ : ∃ s : Nat, size = s := ⟨size.toNat, by omega⟩
      go_wp2_with fail
      go_loopw [46] (fun s46 wr => ∃ (j : Nat) (Dj : Nat → Int), j ≤ s ∧ s46 = .int .i64 j ∧ HLies x T' Dj R' top' par M wr ∧ HTurn T T' w wr ∧ Dj at'.toNat = pw ∧ (∀ k : Int, 0 ≤ k → k < j → Dj (at' + 3 + k).toNat = 0) ∧ ∀ m : Nat, ((m : Int) < at' ∨ at' + s + 3 ≤ m) → Dj m = D1 m) (fun s46 _ => s - (intOf s46).toNat)
      case atStart => exact ⟨0, _, Nat.zero_le _, rfl, HW.out.1, HW.out.2, if_pos rfl, fun k h1 h2 => by omega, fun m hm => if_neg (by omega)⟩
      case round =>
        clear HW
        obtain ⟨j, Dj, hj, rfl, h6, t6, p1, p2, p3⟩ := hrel
        have H6 := Lib.hid (And.intro h6 (And.intro t6 (And.intro p1 (And.intro p2 p3))))
        have c0 := h6.arena
        clear h6 t6 p1 p2 p3
        by_cases hlt : j < s
        · have hlt' : (j : Int) < (s : Int) := by omega
          obtain ⟨u, hu⟩ := H6.out.1.at
          have HU := Lib.hid hu
          have e1 : IntKind.i64.wrap (at' + 3) = at' + 3 := by rw [IntKind.wrap_i64]; omega
          have e2 : IntKind.i64.wrap (at' + 3 + j) = at' + 3 + j := by rw [IntKind.wrap_i64]; omega
          clear hu
          go_wp2_with fail
          refine (store_in x.p x.d x.n Dj u (at' + 3 + j) 0 wr HU.out (by omega) (by omega)).mono ?_
          rintro e w7 ⟨rfl, hA7, hq⟩
          obtain ⟨h7, t7⟩ := H6.out.1.words hA7 hq (fun i hi m hm => if_neg (by have := (clear_link s0 H4.out.2.2.2.2.2.2 hi hm).2 j (by omega) (by omega); omega))
          have H7 := Lib.hid (And.intro h7 (H6.out.2.1.trans t7))
          clear hA7 hq h7 t7 c0 HU
          go_wp2_with fail
          go_roundw
          case rel =>
            refine ⟨j + 1, _, by omega, by go_num, H7.out.1, H7.out.2, ?_, fun k h1 h2 => ?_, fun m hm => ?_⟩
            · rw [if_neg (by omega)]; exact H6.out.2.2.1
            · by_cases e : k = j
              · subst e
                exact if_pos rfl
              · rw [if_neg (by omega)]
                exact H6.out.2.2.2.1 k h1 (by omega)
            · rw [if_neg (by omega)]
              exact H6.out.2.2.2.2 m hm
          case measure => simp [intOf]; omega
        · obtain rfl : j = s := by omega
          go_wp2_with fail
          refine bodyPost_ret (v := .tuple #[.int .i64 at', .int .i64 0]) (by simp [results, Try.results21, go_sem]) rfl ?_
          refine (Or.inr (Or.inl ⟨rfl, at', T', Dj, R', top', M, rfl, H6.out.1, H6.out.2.1, H4.out.2.2.1, ⟨H6.out.2.2.1, H6.out.2.2.2.1, fun m hm hl => ?_⟩⟩))
          exact (H6.out.2.2.2.2 m hm).trans (H4.out.2.2.2.1 m hl)
    · have H4 := Lib.hid (And.intro h4 (And.intro ((HTurn.of_below HB.out.1).trans t4) hF))
      clear h3 h4 t4 hF
      go_wp2_with fail
      refine bodyPost_ret (v := .tuple #[.int .i64 0, .int .i64 2]) (by simp [results, Try.results21, go_sem]) rfl ?_
      exact (Or.inr (Or.inr ⟨rfl, T', rfl, H4.out.1, H4.out.2.1, H4.out.2.2⟩))
  · have e1 : (pe != 0) = true := by simpa using g0
    go_wp2_with fail
    refine bodyPost_ret (v := .tuple #[.int .i64 0, .int .i64 pe]) (by simp [results, Try.results21, go_sem]) rfl ?_
    exact (Or.inl ⟨g0, rfl, HB.out.2, HTurn.of_below HB.out.1⟩)

end Go.Proofs.Ythcgmfcibjinlaa
