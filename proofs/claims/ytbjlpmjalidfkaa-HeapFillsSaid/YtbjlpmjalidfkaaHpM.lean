/- An object's word; its words; what it becomes. -/
import Derived.Test.YtbjlpmjalidfkaaHpL
import Derived.Test.YtbjlpmjalidfkaaCeU
namespace Go.Proofs.Ytbjlpmjalidfkaa
open Go.RowKit

/-- What an object is, by its first word. -/
structure Head (D : Nat → Int) (at' k s a m : Int) : Prop where
  fit : Ce.Fit k s a m
  word : D at'.toNat = Ce.jn k s a m

/-- It lies on. -/
def Stays (x : HSpot) (T : Nat → Nat) (D : Nat → Int) (R : Nat → Rows) (top par : Int) (L : List (Int × Int)) (w w' : World) : Prop := HLies x T D R top par L w' ∧ HTurn T T w w'

theorem Apart.setFresh {p d : Nat} {w W : World} {a : Addr} (h : Apart p d w W) (ha : w.heap.size ≤ a.block) (v : Value) : Apart p d w (W.setCell a v) :=
  ⟨h.os, h.tape, h.output, by simpa [World.setCell] using h.size, fun k hk h1 h2 => (Below.heap_setCell _ _ _ _ (by omega)).trans (h.block k hk h1 h2)⟩
theorem At.setFresh {w W : World} {p d n : Nat} {D : Nat → Int} {u : Int} {a : Addr} (h : At W p d n D u) (h1 : p < w.heap.size) (h2 : d < w.heap.size) (ha : w.heap.size ≤ a.block) (v : Value) : At (W.setCell a v) p d n D u :=
  h.move (Below.heap_setCell _ _ _ _ (by omega)) (Below.heap_setCell _ _ _ _ (by omega)) (by simp [World.setCell])

def CellSaid (x : HSpot) (T : Nat → Nat) (D : Nat → Int) (R : Nat → Rows) (top par : Int) (L : List (Int × Int)) (k s a m : Int) (w : World) (e : Ending) (w' : World) : Prop :=
  e = .returned (.tuple #[.agg #[.int .i64 k, .int .i64 s, .int .i64 a, .int .i64 m], .int .i64 0]) ∧ Stays x T D R top par L w w'

set_option maxHeartbeats 4000000 in
set_option maxRecDepth 100000 in
theorem cell_any (x : HSpot) (T : Nat → Nat) (D : Nat → Int) (R : Nat → Rows) (top par : Int) (L : List (Int × Int)) (w : World) (h : HLies x T D R top par L w) (at' k s a m : Int) (h1 : 1 ≤ at') (h2 : at' < x.n) (hd : Head D at' k s a m) :
    Calls Try.prog 30 #[.pointer (some ⟨x.h, 0, none⟩), .int .i64 at'] w (CellSaid x T D R top par L k s a m w) := by
  have hx := (Below.refl w.heap.size w).alloc (Nat.le_refl _) (.cells #[.int .i64 0, .int .i64 0, .int .i64 0, .int .i64 0] 69)
  have hX := Ce.box_new w (.int .i64 0) (.int .i64 0) (.int .i64 0) (.int .i64 0) 69
  have hz : (w.alloc (.cells #[.int .i64 0, .int .i64 0, .int .i64 0, .int .i64 0] 69)).heap.size = w.heap.size + 1 := by simp
  have hl := h.lh
  obtain ⟨u, hA⟩ := h.at
  have lp := hA.lp
  have ld := hA.ld
  have c0 := later' hx h.arena
  have H := Lib.hid h
  have HX := Lib.hid (And.intro hx (hA.later hx))
  have hu : ∀ W : World, Calls Try.prog 67 #[.int .i64 (D at'.toNat)] W fun e w' => e = .returned (.tuple #[.agg #[.int .i64 k, .int .i64 s, .int .i64 a, .int .i64 m], .int .i64 0]) ∧ Below W.heap.size W w' := fun W => by
    have hr := Ce.jn_range hd.fit
    obtain ⟨e1, e2, e3, e4⟩ := Ce.parts_of hd.fit rfl
    have := Ce.unpack_word (Ce.jn k s a m) W (by unfold Ce.InR; omega) (Ce.word_jn hd.fit)
    rw [e1, e2, e3, e4] at this
    rw [hd.word]
    exact this
  have HU := Lib.hid hu
  clear h hx hA hu hd
  go_enter Try.func30, Try.ntmps30
  go_upto_region 1 with fail
  generalize (w.alloc (.cells #[.int .i64 0, .int .i64 0, .int .i64 0, .int .i64 0] 69)) = W at *
  go_wp2_with fail
  refine (load_in x.p x.d x.n D u at' W HX.out.2 (by omega) h2).mono ?_
  rintro e w2 ⟨rfl, hA2, hq2⟩
  have hX2 : Ce.Box w2 w.heap.size (.int .i64 0) (.int .i64 0) (.int .i64 0) (.int .i64 0) := by
    have hb : w2.heap[w.heap.size]? = W.heap[w.heap.size]? := hq2.block _ hX.lt (by omega) (by omega)
    have o : ∀ (j : Nat) (v : Value), W.cell? ⟨w.heap.size, j, none⟩ = some v → w2.cell? ⟨w.heap.size, j, none⟩ = some v := fun j v hv => (World.cell?_of_block (w := W) hb).trans hv
    have z : ∀ j, W.frozen? ⟨w.heap.size, j, none⟩ = false → w2.frozen? ⟨w.heap.size, j, none⟩ = false := fun j hv => (World.frozen?_of_block (w := W) hb).trans hv
    exact ⟨o _ _ hX.kind, o _ _ hX.size, o _ _ hX.aux, o _ _ hX.mark, z _ hX.f0, z _ hX.f1, z _ hX.f2, z _ hX.f3, Nat.lt_of_lt_of_le hX.lt hq2.size⟩
  have H2 := Lib.hid (And.intro hA2 ((Apart.of_below HX.out.1).trans hq2))
  generalize D at'.toNat = word at *
  clear hA2 hq2 hX c0 HX
  go_wp2_with fail
  refine (HU.out w2).mono ?_
  rintro e w3 ⟨rfl, hb⟩
  obtain ⟨c0, c1, c2, c3, z0, z1, z2, z3, hlt⟩ := hX2.later hb
  have H3 := Lib.hid (And.intro (H2.out.1.later hb) (H2.out.2.trans (Apart.of_below hb)))
  clear hb hX2 H2 HU
  go_wp2_with fail
  refine bodyPost_ret (v := .tuple #[.agg #[.int .i64 k, .int .i64 s, .int .i64 a, .int .i64 m], .int .i64 0]) (by simp [results, Try.results30, go_sem, c0, c1, c2, c3]) rfl ?_
  obtain ⟨hA3, hq3⟩ := H3.out
  refine ⟨rfl, H.out.words (((((hA3.setFresh (w := w) lp ld (Nat.le_refl _) _)).setFresh (w := w) lp ld (Nat.le_refl _) _).setFresh (w := w) lp ld (Nat.le_refl _) _).setFresh (w := w) lp ld (Nat.le_refl _) _) ((((hq3.setFresh (Nat.le_refl _) _).setFresh (Nat.le_refl _) _).setFresh (Nat.le_refl _) _).setFresh (Nat.le_refl _) _) (fun _ _ _ _ => rfl)⟩

def PlaceSaid (x : HSpot) (T : Nat → Nat) (D : Nat → Int) (R : Nat → Rows) (top par : Int) (L : List (Int × Int)) (v err : Int) (w : World) (e : Ending) (w' : World) : Prop :=
  e = .returned (.tuple #[.int .i64 v, .int .i64 err]) ∧ Stays x T D R top par L w w'

set_option maxHeartbeats 4000000 in
set_option maxRecDepth 100000 in
theorem place_in (x : HSpot) (T : Nat → Nat) (D : Nat → Int) (R : Nat → Rows) (top par : Int) (L : List (Int × Int)) (w : World) (h : HLies x T D R top par L w) (at' k s a m : Int) (h1 : 1 ≤ at') (h2 : at' < x.n) (hn : x.n ≤ 65536) (hd : Head D at' k s a m) (j : Int) (hj : 0 ≤ j ∧ j < s) :
    Calls Try.prog 60 #[.pointer (some ⟨x.h, 0, none⟩), .int .i64 at', .int .i64 j] w (PlaceSaid x T D R top par L (at' + 3 + j) 0 w) := by
  have H1 := Lib.hid (cell_any x T D R top par L w h at' k s a m h1 h2 hd)
  have hs := hd.fit.2.1
  have e1 : IntKind.i64.wrap (at' + 3) = at' + 3 := by rw [IntKind.wrap_i64]; omega
  have e2 : IntKind.i64.wrap (at' + 3 + j) = at' + 3 + j := by rw [IntKind.wrap_i64]; omega
  have g1' : decide (j < 0) = false := decide_eq_false (by omega)
  have g2' : decide (s ≤ j) = false := decide_eq_false (by omega)
  clear h hd
  go_enter Try.func60, Try.ntmps60
  go_wp2_with fail
  refine H1.out.mono ?_
  rintro e w2 ⟨rfl, hS⟩
  have hx := (Below.refl w2.heap.size w2).alloc (Nat.le_refl _) (.cells #[.int .i64 k, .int .i64 s, .int .i64 a, .int .i64 m] 69)
  have b1 : (w2.alloc (.cells #[.int .i64 k, .int .i64 s, .int .i64 a, .int .i64 m] 69)).cell? ⟨w2.heap.size, 1, none⟩ = some (.int .i64 s) := by simp [go_sem]
  have HS := Lib.hid (show Stays x T D R top par L w (w2.alloc (.cells #[.int .i64 k, .int .i64 s, .int .i64 a, .int .i64 m] 69)) from ⟨hS.1.later hx, hS.2.trans (HTurn.of_below hx)⟩)
  clear hS hx H1
  go_upto_region 4 with fail
  generalize (w2.alloc (.cells #[.int .i64 k, .int .i64 s, .int .i64 a, .int .i64 m] 69)) = W at *
  go_wp2_with fail
  refine bodyPost_ret (v := .tuple #[.int .i64 (at' + 3 + j), .int .i64 0]) (by simp [results, Try.results60, go_sem]) rfl ?_
  exact ⟨rfl, HS.out⟩

set_option maxHeartbeats 4000000 in
set_option maxRecDepth 100000 in
theorem place_out (x : HSpot) (T : Nat → Nat) (D : Nat → Int) (R : Nat → Rows) (top par : Int) (L : List (Int × Int)) (w : World) (h : HLies x T D R top par L w) (at' k s a m : Int) (h1 : 1 ≤ at') (h2 : at' < x.n) (hd : Head D at' k s a m) (j : Int) (hj : ¬ (0 ≤ j ∧ j < s)) :
    Calls Try.prog 60 #[.pointer (some ⟨x.h, 0, none⟩), .int .i64 at', .int .i64 j] w (PlaceSaid x T D R top par L 0 1 w) := by
  have H1 := Lib.hid (cell_any x T D R top par L w h at' k s a m h1 h2 hd)
  clear h hd
  go_enter Try.func60, Try.ntmps60
  go_wp2_with fail
  refine H1.out.mono ?_
  rintro e w2 ⟨rfl, hS⟩
  have hx := (Below.refl w2.heap.size w2).alloc (Nat.le_refl _) (.cells #[.int .i64 k, .int .i64 s, .int .i64 a, .int .i64 m] 69)
  have b1 : (w2.alloc (.cells #[.int .i64 k, .int .i64 s, .int .i64 a, .int .i64 m] 69)).cell? ⟨w2.heap.size, 1, none⟩ = some (.int .i64 s) := by simp [go_sem]
  have HS := Lib.hid (show Stays x T D R top par L w (w2.alloc (.cells #[.int .i64 k, .int .i64 s, .int .i64 a, .int .i64 m] 69)) from ⟨hS.1.later hx, hS.2.trans (HTurn.of_below hx)⟩)
  clear hS hx H1
  go_upto_region 4 with fail
  generalize (w2.alloc (.cells #[.int .i64 k, .int .i64 s, .int .i64 a, .int .i64 m] 69)) = W at *
  by_cases g1 : j < 0
  · have g1' : decide (j < 0) = true := decide_eq_true g1
    go_wp2_with fail
    refine bodyPost_ret (v := .tuple #[.int .i64 0, .int .i64 1]) (by simp [results, Try.results60, go_sem]) rfl ?_
    exact ⟨rfl, HS.out⟩
  · have g1' : decide (j < 0) = false := decide_eq_false g1
    have g2' : decide (s ≤ j) = true := decide_eq_true (by omega)
    go_wp2_with fail
    refine bodyPost_ret (v := .tuple #[.int .i64 0, .int .i64 1]) (by simp [results, Try.results60, go_sem]) rfl ?_
    exact ⟨rfl, HS.out⟩

theorem Stays.trans {x : HSpot} {T : Nat → Nat} {D D' : Nat → Int} {R R' : Nat → Rows} {top par top' par' : Int} {L L' : List (Int × Int)} {a b c : World} (h : Stays x T D R top par L a b) (k : Stays x T D' R' top' par' L' b c) : Stays x T D' R' top' par' L' a c := ⟨k.1, h.2.trans k.2⟩

set_option maxHeartbeats 1000000 in
set_option maxRecDepth 100000 in
theorem get_in (x : HSpot) (T : Nat → Nat) (D : Nat → Int) (R : Nat → Rows) (top par : Int) (L : List (Int × Int)) (w : World) (h : HLies x T D R top par L w) (at' k s a m : Int) (h1 : 1 ≤ at') (h2 : at' + s + 3 ≤ x.n) (hn : x.n ≤ 65536) (hd : Head D at' k s a m) (j : Int) (hj : 0 ≤ j ∧ j < s) :
    Calls Try.prog 32 #[.pointer (some ⟨x.h, 0, none⟩), .int .i64 at', .int .i64 j] w (PlaceSaid x T D R top par L (D (at' + 3 + j).toNat) 0 w) := by
  have H1 := Lib.hid (place_in x T D R top par L w h at' k s a m h1 (by omega) hn hd j hj)
  have hload : ∀ W u, At W x.p x.d x.n D u → _ := fun W u hA => load_in x.p x.d x.n D u (at' + 3 + j) W hA (by omega) (by omega)
  have HLD := Lib.hid hload
  clear h hd hload
  generalize D (at' + 3 + j).toNat = v at *
  go_enter Try.func32, Try.ntmps32
  go_wp2_with fail
  refine H1.out.mono ?_
  rintro e w2 ⟨rfl, hS⟩
  obtain ⟨u, hu⟩ := hS.1.at
  have c0 := hS.1.arena
  have HU := Lib.hid (And.intro hu hS)
  clear hu hS H1
  go_wp2_with fail
  refine (HLD.out w2 u HU.out.1).mono ?_
  rintro e w3 ⟨rfl, hA, hq⟩
  have HE := Lib.hid (show Stays x T D R top par L w w3 from HU.out.2.trans (HU.out.2.1.words hA hq (fun _ _ _ _ => rfl)))
  clear hA hq c0
  go_wp2_with fail
  refine bodyPost_ret (v := .tuple #[.int .i64 v, .int .i64 0]) (by simp [results, Try.results32, go_sem]) rfl ?_
  exact ⟨rfl, HE.out⟩

/-- A word is set. -/
def putW (D : Nat → Int) (i v : Int) : Nat → Int := fun m => if m = i.toNat then v else D m
def SetSaid (x : HSpot) (T : Nat → Nat) (D : Nat → Int) (R : Nat → Rows) (top par : Int) (L : List (Int × Int)) (err : Int) (w : World) (e : Ending) (w' : World) : Prop :=
  e = .returned (.int .i64 err) ∧ Stays x T D R top par L w w'

set_option maxHeartbeats 1000000 in
set_option maxRecDepth 100000 in
theorem set_in (x : HSpot) (T : Nat → Nat) (D : Nat → Int) (R : Nat → Rows) (top par : Int) (L : List (Int × Int)) (w : World) (h : HLies x T D R top par L w) (at' k s a m : Int) (h1 : 1 ≤ at') (h2 : at' + s + 3 ≤ x.n) (hn : x.n ≤ 65536) (hd : Head D at' k s a m) (j v : Int) (hj : 0 ≤ j ∧ j < s) (hl : ∀ i, i ≤ x.k → ∀ q, Links (R i) q → (q : Int) ≠ at' + 3 + j) :
    Calls Try.prog 22 #[.pointer (some ⟨x.h, 0, none⟩), .int .i64 at', .int .i64 j, .int .i64 v] w (SetSaid x T (putW D (at' + 3 + j) v) R top par L 0 w) := by
  have hs := hd.fit.2.1
  have H1 := Lib.hid (place_in x T D R top par L w h at' k s a m h1 (by omega) hn hd j hj)
  have HL := Lib.hid hl
  clear h hd hl
  go_enter Try.func22, Try.ntmps22
  go_wp2_with fail
  refine H1.out.mono ?_
  rintro e w2 ⟨rfl, hS⟩
  obtain ⟨u, hu⟩ := hS.1.at
  have c0 := hS.1.arena
  have HU := Lib.hid (And.intro hu hS)
  clear hu hS H1
  go_wp2_with fail
  refine (store_in x.p x.d x.n D u (at' + 3 + j) v w2 HU.out.1 (by omega) (by omega)).mono ?_
  rintro e w3 ⟨rfl, hA, hq⟩
  have HE := Lib.hid (show Stays x T (putW D (at' + 3 + j) v) R top par L w w3 from HU.out.2.trans (HU.out.2.1.words hA hq (fun i hi q hq => if_neg (by have := HL.out i hi q hq; omega))))
  clear hA hq c0
  go_wp2_with fail
  go_ret
  exact ⟨rfl, HE.out⟩

set_option maxHeartbeats 1000000 in
set_option maxRecDepth 100000 in
theorem set_out (x : HSpot) (T : Nat → Nat) (D : Nat → Int) (R : Nat → Rows) (top par : Int) (L : List (Int × Int)) (w : World) (h : HLies x T D R top par L w) (at' k s a m : Int) (h1 : 1 ≤ at') (h2 : at' < x.n) (hd : Head D at' k s a m) (j v : Int) (hj : ¬ (0 ≤ j ∧ j < s)) :
    Calls Try.prog 22 #[.pointer (some ⟨x.h, 0, none⟩), .int .i64 at', .int .i64 j, .int .i64 v] w (SetSaid x T D R top par L 1 w) := by
  have H1 := Lib.hid (place_out x T D R top par L w h at' k s a m h1 h2 hd j hj)
  clear h hd
  go_enter Try.func22, Try.ntmps22
  go_wp2_with fail
  refine H1.out.mono ?_
  rintro e w2 ⟨rfl, hS⟩
  have HE := Lib.hid hS
  clear hS H1
  go_wp2_with fail
  go_ret
  exact ⟨rfl, HE.out⟩

set_option maxHeartbeats 1000000 in
set_option maxRecDepth 100000 in
theorem turn_any (x : HSpot) (T : Nat → Nat) (D : Nat → Int) (R : Nat → Rows) (top par : Int) (L : List (Int × Int)) (w : World) (h : HLies x T D R top par L w) (at' k s a m : Int) (h1 : 1 ≤ at') (h2 : at' < x.n) (hp : Ce.pe k s a m = 0) (hl : ∀ i, i ≤ x.k → ∀ q, Links (R i) q → (q : Int) ≠ at') :
    Calls Try.prog 64 #[.pointer (some ⟨x.h, 0, none⟩), .int .i64 at', .agg #[.int .i64 k, .int .i64 s, .int .i64 a, .int .i64 m]] w (SetSaid x T (putW D at' (Ce.pw k s a m)) R top par L 0 w) := by
  have HP := Lib.hid (fun w => Ce.pack_any k s a m w)
  have H := Lib.hid h
  have HL := Lib.hid hl
  clear h hl
  generalize Ce.pe k s a m = pe at *
  generalize Ce.pw k s a m = pw at *
  subst hp
  go_enter Try.func64, Try.ntmps64
  go_wp2_with fail
  have hx := (Below.refl w.heap.size w).alloc (Nat.le_refl _) (.cells #[.int .i64 k, .int .i64 s, .int .i64 a, .int .i64 m] 69)
  refine (HP.out _).mono ?_
  rintro e w2 ⟨rfl, hb0⟩
  have hb := onB' hx hb0
  have hS : Stays x T D R top par L w w2 := ⟨H.out.later hb, HTurn.of_below hb⟩
  clear hx hb0
  obtain ⟨u, hu⟩ := hS.1.at
  have c0 := hS.1.arena
  have HU := Lib.hid (And.intro hu hS)
  clear hb hu hS HP
  go_wp2_with fail
  refine (store_in x.p x.d x.n D u at' pw w2 HU.out.1 (by omega) h2).mono ?_
  rintro e w3 ⟨rfl, hA, hq⟩
  have HE := Lib.hid (show Stays x T (putW D at' pw) R top par L w w3 from HU.out.2.trans (HU.out.2.1.words hA hq (fun i hi q hq => if_neg (by have := HL.out i hi q hq; omega))))
  clear hA hq c0
  go_wp2_with fail
  go_ret
  exact ⟨rfl, HE.out⟩

set_option maxHeartbeats 1000000 in
set_option maxRecDepth 100000 in
theorem become_any (x : HSpot) (T : Nat → Nat) (D : Nat → Int) (R : Nat → Rows) (top par : Int) (L : List (Int × Int)) (w : World) (h : HLies x T D R top par L w) (at' k s a m : Int) (h1 : 1 ≤ at') (h2 : at' < x.n) (hd : Head D at' k s a m) (k' a' : Int) (hp : Ce.pe k' s a' m = 0) (hl : ∀ i, i ≤ x.k → ∀ q, Links (R i) q → (q : Int) ≠ at') :
    Calls Try.prog 34 #[.pointer (some ⟨x.h, 0, none⟩), .int .i64 at', .int .i64 k', .int .i64 a'] w (SetSaid x T (putW D at' (Ce.pw k' s a' m)) R top par L 0 w) := by
  have H1 := Lib.hid (cell_any x T D R top par L w h at' k s a m h1 h2 hd)
  have HT := Lib.hid (fun W hW => turn_any x T D R top par L W hW at' k' s a' m h1 h2 hp hl)
  clear h hd hl
  go_enter Try.func34, Try.ntmps34
  go_wp2_with fail
  refine H1.out.mono ?_
  rintro e w2 ⟨rfl, hS⟩
  have HS := Lib.hid hS
  clear hS H1
  go_wp2_with fail
  have hx := (Below.refl w2.heap.size w2).alloc (Nat.le_refl _) (.cells #[.int .i64 k', .int .i64 s, .int .i64 a', .int .i64 m] 69)
  have HX := Lib.hid (show Stays x T D R top par L w (w2.alloc (.cells #[.int .i64 k', .int .i64 s, .int .i64 a', .int .i64 m] 69)) from ⟨HS.out.1.later hx, HS.out.2.trans (HTurn.of_below hx)⟩)
  generalize (w2.alloc (.cells #[.int .i64 k', .int .i64 s, .int .i64 a', .int .i64 m] 69)) = W at *
  clear hx HS
  refine (HT.out W HX.out.1).mono ?_
  rintro e w3 ⟨rfl, hS⟩
  have HE := Lib.hid (HX.out.trans hS)
  clear hS HT
  generalize putW D at' (Ce.pw k' s a' m) = D' at *
  go_wp2_with fail
  go_ret
  exact ⟨rfl, HE.out⟩

end Go.Proofs.Ytbjlpmjalidfkaa
