import Derived.Test.YtbnmmbjajheedaaGreatDoorRows
import Derived.Lib.LaidTab
import Derived.LaidLaws
import Derived.DataReads
import Derived.Stop.LaidErr
import Derived.LaidMore
import Derived.Test.YtbnmmbjajheedaaGreatDoorMg3
import Derived.Test.YtbnmmbjajheedaaGreatDoorMg4
import Derived.Test.YtbnmmbjajheedaaGreatDoorMg13
import Derived.Test.YtbnmmbjajheedaaGreatDoorMg15
/- Parse, whole. -/
namespace Go.Proofs.YtbnmmbjajheedaaGreatDoor
open Go.RowKit Go.Lib

theorem numT_x (t : List UInt8) : 0 ≤ (numT t).1.x := by
  unfold numT
  split
  · rename_i h
    exact (back (trimPrefix t [35]) (parseL (trimPrefix t [35])).1 (parseL (trimPrefix t [35])).2.1 (by rw [← h])).1
  · exact Int.le_refl 0
theorem readL_x (l : List UInt8) : 0 ≤ (readL l).1.x := by
  unfold readL readR
  repeat' split
  all_goals first | exact numT_x _ | exact Int.le_refl 0
theorem lexL_x {l : List UInt8} {T : List Tok} (h : lexL l = .good T) : ∀ y, y ∈ T → 0 ≤ y.1.x := by
  intro y hy
  obtain ⟨c, r, h1, _, _, _, h5⟩ := (lexL_own h).1 y hy
  have := readL_x y.1.t
  rw [h5] at this
  exact this

/-- The shapes' variables. -/
structure Shs (w : World) : Prop where
  letw : ShAt w 0 sLet
  casew : ShAt w 1 sCase
  lam : ShAt w 2 sLam
  name : ShAt w 3 sName
  con : ShAt w 4 sCon
  num : ShAt w 5 sNum
  back : ShAt w 6 sBack
  opn : ShAt w 7 sOpen
  data : ShAt w 8 sData
  semi : ShAt w 9 sSemi
  inw : ShAt w 10 sIn
  ofw : ShAt w 11 sOf
  curl : ShAt w 12 sCurl
  lruc : ShAt w 13 sLruc
  arrow : ShAt w 14 sArrow
  sign : ShAt w 15 sSign
  shut : ShAt w 16 sShut
  eq : ShAt w 17 sEq
theorem Shs.below {w w' : World} (h : Shs w) (hb : Below w.heap.size w w') : Shs w' := ⟨h.letw.later hb, h.casew.later hb, h.lam.later hb, h.name.later hb, h.con.later hb, h.num.later hb, h.back.later hb, h.opn.later hb, h.data.later hb, h.semi.later hb, h.inw.later hb, h.ofw.later hb, h.curl.later hb, h.lruc.later hb, h.arrow.later hb, h.sign.later hb, h.shut.later hb, h.eq.later hb⟩
theorem ShAt.b {w : World} {g b : Nat} {s : Sh} (h : ShAt w g s) (hb : w.heap.size ≤ b) : ShB w b g s := ⟨h, fun e => by have : g < w.heap.size := World.block_lt_of_cell? _ _ h.1; omega⟩
theorem Shs.env {w : World} {b : Nat} (h : Shs w) (hb : w.heap.size ≤ b) : Env8 w b := ⟨h.letw.b hb, h.casew.b hb, h.lam.b hb, h.name.b hb, h.con.b hb, h.num.b hb, h.back.b hb, h.opn.b hb, h.data.b hb, h.semi.b hb, h.inw.b hb, h.ofw.b hb, h.curl.b hb, h.lruc.b hb, h.arrow.b hb, h.sign.b hb, h.shut.b hb, h.eq.b hb⟩
theorem RestIn.of_own {W : World} {base : Nat} {a : Option Addr} {c : Nat} {T : List Tok} (h : W.ownsRow base 41 5 (.slice a T.length c) T.length (flatT T)) {b : Nat} (hb : W.heap.size ≤ b) : RestIn W b (.slice a T.length c) T := by
  have hc : T.length ≤ c ∧ c ≤ maxLen := by
    rcases h.2 with ⟨e, e2⟩ | ⟨g, cap, cur, e, hg, hb, h1, h2, -⟩
    · obtain ⟨-, q1, q2⟩ := Value.slice.inj e; exact ⟨by omega, by unfold maxLen; omega⟩
    · obtain ⟨-, q1, q2⟩ := Value.slice.inj e; exact ⟨by omega, by omega⟩
  refine ⟨a, c, rfl, hc.1, hc.2, ?_⟩
  cases T with
  | nil => exact Or.inl rfl
  | cons y r =>
    obtain ⟨g, rfl, h0⟩ := own_tok h (j := 0) (by simp)
    have hg : g < W.heap.size := World.block_lt_of_cell? _ _ h0.c0
    refine Or.inr ⟨g, 0, rfl, by omega, fun i hi => ?_⟩
    obtain ⟨g', e, hi'⟩ := own_tok h hi
    cases e
    simp only [Nat.zero_add]
    exact ⟨hi'.c0, hi'.c1, hi'.c2, hi'.c3, hi'.c4⟩
theorem lexL_tvs {l : List UInt8} {T : List Tok} (h : lexL l = .good T) : Tvs T := fun y hy => ((lexL_ok h).ok y hy).2
theorem module_bad {T : List Tok} (hv : Tvs T) {er ln : Int} (h : moduleO (T.length + 1) [] [] 1 T = .bad er ln) : er ≠ 0 := by
  have hs := parse_sim hv
  unfold parseO at hs
  rw [h] at hs
  exact hs.1
/-- A source's module. -/
def modL (l : List UInt8) : Out Md :=
  match lexL l with
  | .good T => parseO T
  | .bad k line => .bad k line
def ParsedV (lo : Nat) (o : Out Md) (e : Ending) (w : World) : Prop :=
  match o with
  | .ok md _ _ => ∃ vc vb xb, e = .returned (.tuple #[.agg #[vc, vb], .int .i64 0, .int .i64 0]) ∧ w.ownsRow lo 67 2 vc md.1.length (declV md.1) ∧ w.ownsRow lo 51 10 vb md.2.length xb ∧ BndsAt w (fun g => lo ≤ g) md.2 xb
  | .bad er ln => er ≠ 0 ∧ e = .returned (.tuple #[.agg #[.slice none 0 0, .slice none 0 0], .int .i64 er, .int .i64 ln])

theorem own_kp {w w' : World} {lo : Nat} {e : TypeId} {size : Nat} {v : Value} {n : Nat} {xs : List Value} (h : w.ownsRow lo e size v n xs) (hk : Kp lo w.heap.size w w') : w'.ownsRow lo e size v n xs := by
  obtain ⟨h0, h | ⟨g, cap, cur, rfl, h2, h3, h4⟩⟩ := h
  · exact ⟨h0, Or.inl h⟩
  · refine ⟨h0, Or.inr ⟨g, cap, cur, rfl, h2, ?_, h4⟩⟩
    have hg : g < w.heap.size := by
      rcases Nat.lt_or_ge g w.heap.size with h | h
      · exact h
      · rw [Array.getElem?_eq_none h] at h3; cases h3
    rw [hk g h2 hg]
    exact h3
theorem onB2 {n : Nat} {a b c : World} (h : Below n a b) (k : Below b.heap.size b c) (hn : n ≤ b.heap.size) : Below n a c := ⟨k.os.trans h.os, k.tape.trans h.tape, k.output.trans h.output, Nat.le_trans h.size k.size, fun i hi => (k.block i (by omega)).trans (h.block i hi)⟩
theorem below_past2 {n q : Nat} {a b c : World} (h : Below n a b) (hg : b.grownBy c (some q)) (hn : n ≤ b.heap.size) (hq : n ≤ q) : Below n a c := ⟨hg.os.trans h.os, hg.tape.trans h.tape, hg.output.trans h.output, Nat.le_trans h.size hg.size, fun i hi => (hg.block i (by omega) (by simp; omega)).trans (h.block i hi)⟩
theorem below_past2b {n : Nat} {a b c : World} (h : Below n a b) (k : Below n b c) : Below n a c := ⟨k.os.trans h.os, k.tape.trans h.tape, k.output.trans h.output, Nat.le_trans h.size k.size, fun i hi => (k.block i hi).trans (h.block i hi)⟩
theorem below_newd {n : Nat} {w W : World} (h : Below n w W) {p i : Nat} (v : Value) (hp : n ≤ p) : Below n w (W.setCell ⟨p, i, none⟩ v) := below_new h p i v hp
theorem Box3.below {w w' : World} {p0 : Nat} {vc vb : Value} {er ln : Int} (h : Box3 w p0 (p0 + 1) (p0 + 2) vc vb er ln) (hb : Below w.heap.size w w') : Box3 w' p0 (p0 + 1) (p0 + 2) vc vb er ln := by
  obtain ⟨h0, h1, h2, h3, z0, z1, z2, z3⟩ := h
  have l0 := World.block_lt_of_cell? _ _ h0
  have l2 := World.block_lt_of_cell? _ _ h2
  have l3 := World.block_lt_of_cell? _ _ h3
  simp only at l0 l2 l3
  exact ⟨later' hb h0, later' hb h1, later' hb h2, later' hb h3, (World.frozen?_of_block (w := w) (hb.block _ l0)).trans z0, (World.frozen?_of_block (w := w) (hb.block _ l0)).trans z1, (World.frozen?_of_block (w := w) (hb.block _ l2)).trans z2, (World.frozen?_of_block (w := w) (hb.block _ l3)).trans z3⟩
set_option maxHeartbeats 16000000 in
set_option maxRecDepth 100000 in
theorem parsed_any (s : ByteArray) (hs : s.size ≤ 100000) (w : World) (hS : SG w) (hE : EE w) (hV : Shs w) : Calls Tryz.prog 13 #[.string s] w (fun e w' => ParsedV w.heap.size (modL s.data.toList) e w' ∧ Below w.heap.size w w') := by
  have hmf : ∀ (fn : Fn) (first cap : Array Value) (w : World), (Instr.makeFunc fn first cap).run Tryz.prog w = .ok (.func fn first cap) w := fun _ _ _ _ => rfl
  have hy1 := (Below.refl w.heap.size w).alloc (Nat.le_refl _) (.cells #[.slice none 0 0, .slice none 0 0] 26)
  have hy2 := hy1.alloc (by simp) (.cells #[.int .i64 0] 27)
  have hy3 := hy2.alloc (by simp; omega) (.cells #[.int .i64 0] 3)
  have hB : Box3 (((w.alloc (.cells #[.slice none 0 0, .slice none 0 0] 26)).alloc (.cells #[.int .i64 0] 27)).alloc (.cells #[.int .i64 0] 3)) w.heap.size (w.heap.size + 1) (w.heap.size + 2) (.slice none 0 0) (.slice none 0 0) 0 0 := by
    refine ⟨?_, ?_, ?_, ?_, ?_, ?_, ?_, ?_⟩ <;> simp [go_sem]
  have hsz : w.heap.size + 3 ≤ (((w.alloc (.cells #[.slice none 0 0, .slice none 0 0] 26)).alloc (.cells #[.int .i64 0] 27)).alloc (.cells #[.int .i64 0] 3)).heap.size := by simp
  have HVs := Lib.hid hV
  have HX := Lib.hid (And.intro hy3 (And.intro hB (And.intro (hS.below hy3) (And.intro (hE.below hy3) (hV.below hy3)))))
  clear hy1 hy2 hy3 hB hS hE hV
  go_enter_defers Tryz.func13, Tryz.ntmps13
  go_upto_region 1 with fail
  generalize (((w.alloc (.cells #[.slice none 0 0, .slice none 0 0] 26)).alloc (.cells #[.int .i64 0] 27)).alloc (.cells #[.int .i64 0] 3)) = W at *
  have HL := Lib.hid (lex_any s hs W HX.out.2.2.1 HX.out.2.2.2.1)
  go_wp2_with fail
  refine HL.out.mono ?_
  intro e w2 h2
  obtain ⟨T, a, c, er, line, rfl, hown, hb2, hv⟩ := h2.view
  have HV := Lib.hid (And.intro hown hv)
  have HB2 := Lib.hid (HX.out.2.1.below hb2)
  have H2 := Lib.hid (And.intro (onB' HX.out.1 hb2) (HX.out.2.2.2.2.below hb2))
  have hs2 : W.heap.size ≤ w2.heap.size := hb2.size
  obtain ⟨c0, c1, c2, c3, z0, z1, z2, z3⟩ := HB2.out
  have c3' : w2.cell? ⟨w.heap.size + 1 + 1, 0, none⟩ = some (.int .i64 0) := c3
  have z3' : w2.frozen? ⟨w.heap.size + 1 + 1, 0, none⟩ = false := z3
  clear h2 hown hb2 hv HL c3 z3
  go_upto_region 2 with fail
  have hg1 := set_grown w2 (w.heap.size + 1) 0 (.int .i64 er)
  have hg2 := set_grown (w2.setCell ⟨w.heap.size + 1, 0, none⟩ (.int .i64 er)) (w.heap.size + 1 + 1) 0 (.int .i64 line)
  have hB3 : Box3 ((w2.setCell ⟨w.heap.size + 1, 0, none⟩ (.int .i64 er)).setCell ⟨w.heap.size + 1 + 1, 0, none⟩ (.int .i64 line)) w.heap.size (w.heap.size + 1) (w.heap.size + 1 + 1) (.slice none 0 0) (.slice none 0 0) er line := by
    refine ⟨(at_far _ _ _ _ _ _ (by omega)).trans ((at_far _ _ _ _ _ _ (by omega)).trans c0), (at_far _ _ _ _ _ _ (by omega)).trans ((at_far _ _ _ _ _ _ (by omega)).trans c1), (at_far _ _ _ _ _ _ (by omega)).trans (at_sam _ c2), at_sam _ ((at_far _ _ _ _ _ _ (by omega)).trans c3'), ?_, ?_, ?_, ?_⟩
    · simp [z0]
    · simp [z1]
    · simp [z2]
    · simp [z3']
  have hbl : Below w.heap.size w ((w2.setCell ⟨w.heap.size + 1, 0, none⟩ (.int .i64 er)).setCell ⟨w.heap.size + 1 + 1, 0, none⟩ (.int .i64 line)) := below_new (below_new H2.out.1 _ _ _ (by omega)) _ _ _ (by omega)
  have hshs : Shs ((w2.setCell ⟨w.heap.size + 1, 0, none⟩ (.int .i64 er)).setCell ⟨w.heap.size + 1 + 1, 0, none⟩ (.int .i64 line)) := HVs.out.below hbl
  have hown3 : ((w2.setCell ⟨w.heap.size + 1, 0, none⟩ (.int .i64 er)).setCell ⟨w.heap.size + 1 + 1, 0, none⟩ (.int .i64 line)).ownsRow W.heap.size 41 5 (.slice a T.length c) T.length (flatT T) :=
    own_o (own_o HV.out.1 hg1 (fun g e e2 => by have := (HV.out.1.lt g e).1; have := Option.some.inj e2; omega)) hg2 (fun g e e2 => by have := (HV.out.1.lt g e).1; have := Option.some.inj e2; omega)
  have hs3 : w2.heap.size ≤ ((w2.setCell ⟨w.heap.size + 1, 0, none⟩ (.int .i64 er)).setCell ⟨w.heap.size + 1 + 1, 0, none⟩ (.int .i64 line)).heap.size := by simp
  have H3 := Lib.hid (And.intro hB3 (And.intro hbl (And.intro hshs hown3)))
  clear hB3 hbl hshs hown3 hg1 hg2 c0 c1 c2 c3' z0 z1 z2 z3'
  generalize ((w2.setCell ⟨w.heap.size + 1, 0, none⟩ (.int .i64 er)).setCell ⟨w.heap.size + 1 + 1, 0, none⟩ (.int .i64 line)) = W3 at *
  obtain ⟨c0, c1, c2, c3, z0, z1, z2, z3⟩ := H3.out.1
  rcases HV.out.2 with ⟨hR, rfl, rfl⟩ | ⟨hR, rfl⟩
  · have hXx := lexL_x hR
    have hTv := lexL_tvs hR
    have hln := (lexL_own hR).2.1
    have hmod : modL s.data.toList = moduleO (T.length + 1) [] [] 1 T := by unfold modL; rw [hR]; rfl
    have HM := Lib.hid hmod
    have HN := Lib.hid (newReader_any a T c W3 (RestIn.of_own H3.out.2.2.2 (Nat.le_refl _)) (H3.out.2.2.1.env (Nat.le_refl _)))
    clear hR hmod
    go_wp2_with fail
    refine HN.out.mono ?_
    rintro e w4 ⟨me, mm, B, rfl, hC, hR4, hb4⟩
    have HMo := Lib.hid (module_any W3.heap.size me mm B 1 T hXx hln w4 hC hR4)
    have H4 := Lib.hid hb4
    have hs4 : W3.heap.size ≤ w4.heap.size := hb4.size
    clear hC hR4 hb4 HN
    go_wp2_with fail
    refine HMo.out.mono ?_
    rintro e w5 h5
    have HB4 := Lib.hid (H3.out.1.below H4.out)
    cases ho : moduleO (T.length + 1) [] [] 1 T with
    | bad er ln =>
      rw [ho] at h5
      obtain ⟨hbr, hg5⟩ := h5
      have hb5 : Box3 w5 w.heap.size (w.heap.size + 1) (w.heap.size + 2) (.slice none 0 0) (.slice none 0 0) 0 0 := by
        obtain ⟨p0, p1, p2, p3, y0, y1, y2, y3⟩ := HB4.out
        exact ⟨hg5.cell p0 (by simp; omega), hg5.cell p1 (by simp; omega), hg5.cell p2 (by simp; omega), hg5.cell p3 (by simp; omega), (World.frozen?_of_block (w := w4) (hg5.block _ (by simp; omega) (by simp; omega))).trans y0, (World.frozen?_of_block (w := w4) (hg5.block _ (by simp; omega) (by simp; omega))).trans y1, (World.frozen?_of_block (w := w4) (hg5.block _ (by simp; omega) (by simp; omega))).trans y2, (World.frozen?_of_block (w := w4) (hg5.block _ (by simp; omega) (by simp; omega))).trans y3⟩
      have hs5 : w4.heap.size ≤ w5.heap.size := hg5.size
      have hbel : Below w.heap.size w w5 := below_past2 (onB2 H3.out.2.1 H4.out (by omega)) hg5 (by omega) (by omega)
      have hmod := HM.out
      rw [ho] at hmod
      have her : er ≠ 0 := module_bad hTv ho
      have H5 := Lib.hid (And.intro hb5 (And.intro hbel (And.intro hmod her)))
      unfold Broken at hbr
      subst hbr
      clear hg5 hb5 hbel hmod her ho HMo c0 c1 c2 c3 z0 z1 z2 z3
      go_wp2_with fail
      refine leaves_cons (f := 24) (args := #[.pointer (some ⟨w.heap.size, 0, none⟩), .pointer (some ⟨w.heap.size + 1, 0, none⟩), .pointer (some ⟨w.heap.size + 1 + 1, 0, none⟩)]) (by simp) (by simp [go_sem]) ?_
      refine (catch_fault w.heap.size _ _ 0 0 er ln [] w5 H5.out.1 (by omega)).mono ?_
      rintro e u' w6 ⟨rfl, rfl, hb6, hbl6⟩
      obtain ⟨q0, q1, q2, q3, -, -, -, -⟩ := hb6
      have q3' : w6.cell? ⟨w.heap.size + 1 + 1, 0, none⟩ = some (.int .i64 ln) := q3
      simp [Leaves, settle, results, Tryz.results13, go_sem, q0, q1, q2, q3']
      rw [H5.out.2.2.1]
      exact ⟨⟨H5.out.2.2.2, rfl⟩, below_past2b H5.out.2.1 hbl6⟩
    | ok md l r =>
      rw [ho] at h5
      obtain ⟨⟨vc, vb, xb, rfl, hoc, hob, hbt⟩, hR5, hg5⟩ := h5
      obtain ⟨av2, cc2, rfl, -⟩ := own_shape hoc
      obtain ⟨av3, cc3, rfl, -⟩ := own_shape hob
      have hs5 : w4.heap.size ≤ w5.heap.size := hg5.size
      have hmod := HM.out
      rw [ho] at hmod
      obtain ⟨p0, p1, p2, p3, y0, y1, y2, y3⟩ := HB4.out
      have p3' : w4.cell? ⟨w.heap.size + 1 + 1, 0, none⟩ = some (.int .i64 0) := p3
      have y3' : w4.frozen? ⟨w.heap.size + 1 + 1, 0, none⟩ = false := y3
      clear c0 c1 c2 c3 z0 z1 z2 z3 p3 y3
      have c0 := hg5.cell p0 (by simp; omega)
      have c1 := hg5.cell p1 (by simp; omega)
      have c2 := hg5.cell p2 (by simp; omega)
      have c3 := hg5.cell p3' (by simp; omega)
      have z0 := (World.frozen?_of_block (w := w4) (a := ⟨w.heap.size, 0, none⟩) (hg5.block w.heap.size (by omega) (by simp; omega))).trans y0
      have z1 := (World.frozen?_of_block (w := w4) (a := ⟨w.heap.size, 1, none⟩) (hg5.block w.heap.size (by omega) (by simp; omega))).trans y1
      have z2 := (World.frozen?_of_block (w := w4) (a := ⟨w.heap.size + 1, 0, none⟩) (hg5.block (w.heap.size + 1) (by omega) (by simp; omega))).trans y2
      have z3 := (World.frozen?_of_block (w := w4) (a := ⟨w.heap.size + 1 + 1, 0, none⟩) (hg5.block (w.heap.size + 1 + 1) (by omega) (by simp; omega))).trans y3'
      have hbel : Below w.heap.size w w5 := below_past2 (onB2 H3.out.2.1 H4.out (by omega)) hg5 (by omega) (by omega)
      have H5 := Lib.hid (And.intro hoc (And.intro hob (And.intro hbt (And.intro hbel hmod))))
      clear hoc hob hbt hR5 hg5 hbel hmod ho HMo p0 p1 p2 p3' y0 y1 y2 y3'
      go_wp2_with fail
      refine leaves_cons (f := 24) (args := #[.pointer (some ⟨w.heap.size, 0, none⟩), .pointer (some ⟨w.heap.size + 1, 0, none⟩), .pointer (some ⟨w.heap.size + 1 + 1, 0, none⟩)]) (by simp) (by simp [go_sem]) ?_
      refine (catch_none w.heap.size _).mono ?_
      rintro e u' w6 ⟨rfl, rfl, rfl⟩
      have hF : Box3 (((((w5.setCell ⟨w.heap.size, 0, none⟩ (.slice av2 md.1.length cc2)).setCell ⟨w.heap.size, 1, none⟩ (.slice av3 md.2.length cc3)).setCell ⟨w.heap.size + 1, 0, none⟩ (.int .i64 0)).setCell ⟨w.heap.size + 1 + 1, 0, none⟩ (.int .i64 0))) w.heap.size (w.heap.size + 1) (w.heap.size + 1 + 1) (.slice av2 md.1.length cc2) (.slice av3 md.2.length cc3) 0 0 := by
        refine ⟨?_, ?_, ?_, ?_, ?_, ?_, ?_, ?_⟩
        · exact (at_far _ _ _ _ _ _ (by omega)).trans ((at_far _ _ _ _ _ _ (by omega)).trans ((at_oth _ _ _ _ _ (by decide)).trans (at_sam _ c0)))
        · exact (at_far _ _ _ _ _ _ (by omega)).trans ((at_far _ _ _ _ _ _ (by omega)).trans (at_sam _ ((at_oth _ _ _ _ _ (by decide)).trans c1)))
        · exact (at_far _ _ _ _ _ _ (by omega)).trans (at_sam _ ((at_far _ _ _ _ _ _ (by omega)).trans ((at_far _ _ _ _ _ _ (by omega)).trans c2)))
        · exact at_sam _ ((at_far _ _ _ _ _ _ (by omega)).trans ((at_far _ _ _ _ _ _ (by omega)).trans ((at_far _ _ _ _ _ _ (by omega)).trans c3)))
        · exact (by simpa using z0)
        · exact (by simpa using z1)
        · exact (by simpa using z2)
        · exact (by simpa using z3)
      obtain ⟨q0, q1, q2, q3, -, -, -, -⟩ := hF
      have hkp : Kp w4.heap.size w5.heap.size w5 (((((w5.setCell ⟨w.heap.size, 0, none⟩ (.slice av2 md.1.length cc2)).setCell ⟨w.heap.size, 1, none⟩ (.slice av3 md.2.length cc3)).setCell ⟨w.heap.size + 1, 0, none⟩ (.int .i64 0)).setCell ⟨w.heap.size + 1 + 1, 0, none⟩ (.int .i64 0))) := (((Kp.set _ _ _ _ (Or.inl (by omega))).trans (Kp.set _ _ _ _ (Or.inl (by omega)))).trans (Kp.set _ _ _ _ (Or.inl (by omega)))).trans (Kp.set _ _ _ _ (Or.inl (by omega)))
      have hbl6 : Below w.heap.size w (((((w5.setCell ⟨w.heap.size, 0, none⟩ (.slice av2 md.1.length cc2)).setCell ⟨w.heap.size, 1, none⟩ (.slice av3 md.2.length cc3)).setCell ⟨w.heap.size + 1, 0, none⟩ (.int .i64 0)).setCell ⟨w.heap.size + 1 + 1, 0, none⟩ (.int .i64 0))) := below_new (below_new (below_new (below_new H5.out.2.2.2.1 _ _ _ (Nat.le_refl _)) _ _ _ (Nat.le_refl _)) _ _ _ (by omega)) _ _ _ (by omega)
      generalize (((((w5.setCell ⟨w.heap.size, 0, none⟩ (.slice av2 md.1.length cc2)).setCell ⟨w.heap.size, 1, none⟩ (.slice av3 md.2.length cc3)).setCell ⟨w.heap.size + 1, 0, none⟩ (.int .i64 0)).setCell ⟨w.heap.size + 1 + 1, 0, none⟩ (.int .i64 0))) = W6 at *
      simp [Leaves, settle, results, Tryz.results13, go_sem, q0, q1, q2, q3]
      rw [H5.out.2.2.2.2]
      refine ⟨⟨_, _, xb, rfl, own_base (own_kp H5.out.1 hkp) (by omega), own_base (own_kp H5.out.2.1 hkp) (by omega), H5.out.2.2.1.kp hkp (by omega)⟩, hbl6⟩
  · have her : er ≠ 0 := lexL_bad hR
    have f0 : (er != 0) = true := by simpa using her
    have HR := Lib.hid (show modL s.data.toList = .bad er line by unfold modL; rw [hR])
    clear hR
    go_wp2_with fail
    go_region
    all_goals go_wp2_with fail
    all_goals
      have hF : Box3 (((((W3.setCell ⟨w.heap.size, 0, none⟩ (.slice none 0 0)).setCell ⟨w.heap.size, 1, none⟩ (.slice none 0 0)).setCell ⟨w.heap.size + 1, 0, none⟩ (.int .i64 er)).setCell ⟨w.heap.size + 1 + 1, 0, none⟩ (.int .i64 line))).drew w.heap.size (w.heap.size + 1) (w.heap.size + 1 + 1) (.slice none 0 0) (.slice none 0 0) er line := by
        refine ⟨?_, ?_, ?_, ?_, ?_, ?_, ?_, ?_⟩
        · exact (at_far _ _ _ _ _ _ (by omega)).trans ((at_far _ _ _ _ _ _ (by omega)).trans ((at_oth _ _ _ _ _ (by decide)).trans (at_sam _ c0)))
        · exact (at_far _ _ _ _ _ _ (by omega)).trans ((at_far _ _ _ _ _ _ (by omega)).trans (at_sam _ ((at_oth _ _ _ _ _ (by decide)).trans c1)))
        · exact (at_far _ _ _ _ _ _ (by omega)).trans (at_sam _ ((at_far _ _ _ _ _ _ (by omega)).trans ((at_far _ _ _ _ _ _ (by omega)).trans c2)))
        · exact at_sam _ ((at_far _ _ _ _ _ _ (by omega)).trans ((at_far _ _ _ _ _ _ (by omega)).trans ((at_far _ _ _ _ _ _ (by omega)).trans c3)))
        · exact (by simpa using z0)
        · exact (by simpa using z1)
        · exact (by simpa using z2)
        · exact (by simpa using z3)
      obtain ⟨q0, q1, q2, q3, -, -, -, -⟩ := hF
      have hbl6 : Below w.heap.size w (((((W3.setCell ⟨w.heap.size, 0, none⟩ (.slice none 0 0)).setCell ⟨w.heap.size, 1, none⟩ (.slice none 0 0)).setCell ⟨w.heap.size + 1, 0, none⟩ (.int .i64 er)).setCell ⟨w.heap.size + 1 + 1, 0, none⟩ (.int .i64 line))).drew := (below_new (below_new (below_new (below_new H3.out.2.1 _ _ _ (Nat.le_refl _)) _ _ _ (Nat.le_refl _)) _ _ _ (by omega)) _ _ _ (by omega)).drew
      generalize (((((W3.setCell ⟨w.heap.size, 0, none⟩ (.slice none 0 0)).setCell ⟨w.heap.size, 1, none⟩ (.slice none 0 0)).setCell ⟨w.heap.size + 1, 0, none⟩ (.int .i64 er)).setCell ⟨w.heap.size + 1 + 1, 0, none⟩ (.int .i64 line))).drew = W6 at *
      simp [bodyPostD, Leaves, results, Tryz.results13, go_sem, q0, q1, q2, q3]
      rw [HR.out]
      exact ⟨⟨her, rfl⟩, hbl6⟩

end Go.Proofs.YtbnmmbjajheedaaGreatDoor

/- The document's Same: the same modules are the same. -/
namespace Go.Proofs.YtbnmmbjajheedaaGreatDoor
open Go.RowKit Go.Lib

theorem sx_all : ∀ n, SX n
  | 0 => by
    intro x K1 K2 w k1 k2 n1 n2 f1 f2 u1 u2 p1 q1 r1 s1 p2 q2 r2 s2 hn
    cases x
    simp only [Ex.mk.sizeOf_spec] at hn
    omega
  | n + 1 => sx_step n (sx_all n)
theorem decl_refl (d : Nat) (b : ByteArray) (x : Int) (w : World) : (Op.equalIn (d + 2) 67 (.agg #[.string b, .int .i64 x]) (.agg #[.string b, .int .i64 x])).run Tryz.prog w = .ok true w := by
  have hf : Tryz.prog.underlying 67 = some (.struct (Tryz.prog.fieldsOf 67)) := by kernel_rfl
  have q1 : ∀ (w : World), (Op.equalIn (d + 1) 9 (.string b) (.string b)).run Tryz.prog w = .ok true w := fun w => by rw [run_equalIn_string w d 9 b b Tryz.underlying9]; simp
  have q2 : ∀ (w : World), (Op.equalIn (d + 1) 3 (.int .i64 x) (.int .i64 x)).run Tryz.prog w = .ok true w := fun w => by rw [run_equalIn_int w d 3 .i64 .i64 x x Tryz.underlying3]; simp
  rw [run_equalIn_struct w (d + 1) 67 _ _ hf (by kernel_rfl)]
  generalize hE : Op.equalIn (d + 1) 9 = E at *
  generalize hF : Op.equalIn (d + 1) 3 = F at *
  have p0 : ∀ (w : World), (part 9 #[.string b, .int .i64 x] 0).run Tryz.prog w = .ok (.string b) w := by intro w; simp [part, Tryz.isAgg9, go_sem]
  have p1 : ∀ (w : World), (part 3 #[.string b, .int .i64 x] 1).run Tryz.prog w = .ok (.int .i64 x) w := by intro w; simp [part, Tryz.isAgg3, go_sem]
  have hl : (Tryz.prog.fieldsOf 67).toList = [⟨"Name", 9, 0, false, "", "", 0⟩, ⟨"Arity", 3, 1, false, "", "", 16⟩] := by kernel_rfl
  rw [hl]
  simp [Op.eqFields, hE, hF, p0, p1, q1, q2]
theorem decl_same (b : ByteArray) (x : Int) (w : World) : (binOp .neq 67 (.agg #[.string b, .int .i64 x]) (.agg #[.string b, .int .i64 x])).run Tryz.prog w = .ok (.bool false) w := by
  have he : (Op.equal 67 (.agg #[.string b, .int .i64 x]) (.agg #[.string b, .int .i64 x])).run Tryz.prog w = .ok true w := decl_refl 9998 b x w
  generalize hq : Op.equal = E at he
  simp [binOp, hq, he]
theorem declV_at : ∀ {l : List (Nm × Int)} {j : Nat} (hj : j < l.length), (declV l)[j * 2]? = some (.string (tx l[j].1)) ∧ (declV l)[j * 2 + 1]? = some (.int .i64 l[j].2)
  | (n, x) :: ds, 0, _ => ⟨rfl, rfl⟩
  | (n, x) :: ds, j + 1, hj => by
    have h := declV_at (l := ds) (j := j) (by simpa using hj)
    have e : (j + 1) * 2 = j * 2 + 1 + 1 := by omega
    rw [e]
    exact h
set_option maxHeartbeats 16000000 in
set_option maxRecDepth 100000 in
theorem same_any (ds : List (Nm × Int)) (bs : List Bnd) (w : World) (lo1 lo2 : Nat) (vc1 vb1 vc2 vb2 : Value) (x1 x2 : List Value) (K1 K2 : Nat → Prop)
    (hc1 : w.ownsRow lo1 67 2 vc1 ds.length (declV ds)) (hb1 : w.ownsRow lo1 51 10 vb1 bs.length x1) (ht1 : BndsAt w K1 bs x1)
    (hc2 : w.ownsRow lo2 67 2 vc2 ds.length (declV ds)) (hb2 : w.ownsRow lo2 51 10 vb2 bs.length x2) (ht2 : BndsAt w K2 bs x2) :
    Calls Tryz.prog 15 #[.agg #[vc1, vb1], .agg #[vc2, vb2]] w fun e w' => e = .returned (.bool true) ∧ Below w.heap.size w w' := by
  obtain ⟨a1, c1, rfl, -⟩ := own_shape hc1
  obtain ⟨a2, c2, rfl, -⟩ := own_shape hb1
  obtain ⟨d1, e1, rfl, -⟩ := own_shape hc2
  obtain ⟨d2, e2, rfl, -⟩ := own_shape hb2
  have hmx := own_cap hc1
  unfold maxLen at hmx
  have hy1 := (Below.refl w.heap.size w).alloc (Nat.le_refl _) (.cells #[.slice a1 ds.length c1, .slice a2 bs.length c2] 26)
  have hy2 := hy1.alloc (by simp) (.cells #[.slice d1 ds.length e1, .slice d2 bs.length e2] 26)
  have hB1 := (BoxW.alloc w #[.slice a1 ds.length c1, .slice a2 bs.length c2] 26).below ((Below.refl _ _).alloc (Nat.le_refl _) (.cells #[.slice d1 ds.length e1, .slice d2 bs.length e2] 26))
  have hB2 := BoxW.alloc (w.alloc (.cells #[.slice a1 ds.length c1, .slice a2 bs.length c2] 26)) #[.slice d1 ds.length e1, .slice d2 bs.length e2] 26
  rw [show (w.alloc (.cells #[.slice a1 ds.length c1, .slice a2 bs.length c2] 26)).heap.size = w.heap.size + 1 by simp] at hB2
  have HX := Lib.hid (And.intro hy2 (And.intro hB1 hB2))
  have HC := Lib.hid (And.intro hc1 hc2)
  have HB := Lib.hid (And.intro hb1 (And.intro hb2 (And.intro ht1 ht2)))
  clear hy1 hy2 hB1 hB2 hc1 hb1 ht1 hc2 hb2 ht2
  go_enter Tryz.func15, Tryz.ntmps15
  go_upto_region 1 with fail
  generalize ((w.alloc (.cells #[.slice a1 ds.length c1, .slice a2 bs.length c2] 26)).alloc (.cells #[.slice d1 ds.length e1, .slice d2 bs.length e2] 26)) = W at *
  have p0 := HX.out.2.1.1 0 _ rfl
  have q0 := HX.out.2.2.1 0 _ rfl
  have p1 := HX.out.2.1.1 1 _ rfl
  have q1 := HX.out.2.2.1 1 _ rfl
  have hu1 : ((ds.length : Int) != (ds.length : Int)) = false := by simp
  have HS := Lib.hid (samebinds_any (SizeOf.sizeOf bs) (sx_all _) bs (fun x hx => by have := List.sizeOf_lt_of_mem hx; obtain ⟨a, b, c⟩ := x; simp only [Prod.mk.sizeOf_spec] at this ⊢; omega) a2 d2 c2 e2 x1 x2 (fun g => lo1 ≤ g) (fun g => lo2 ≤ g) K1 K2 W ((RowAt.own HB.out.1).below HX.out.1) ((RowAt.own HB.out.2.1).below HX.out.1) (HB.out.2.2.1.move fun g hk lt => ⟨hk, HX.out.1.block g lt⟩) (HB.out.2.2.2.move fun g hk lt => ⟨hk, HX.out.1.block g lt⟩))
  go_wp2_with fail
  refine HS.out.mono ?_
  rintro e w3 ⟨rfl, hb3⟩
  have H3 := Lib.hid (And.intro (onB' HX.out.1 hb3) (And.intro (HX.out.2.1.below hb3) (HX.out.2.2.below hb3)))
  clear hb3 HS p0 q0 p1 q1
  go_wp2_with fail
  clear hu1
  go_loopw [5] (fun s5 wr => ∃ j : Nat, j ≤ ds.length ∧ s5 = .int .i64 j ∧ Below w3.heap.size w3 wr) (fun s5 _ => ds.length - (RowKit.intOf s5).toNat)
  case atStart => exact ⟨0, Nat.zero_le _, rfl, Below.refl _ _⟩
  case round =>
    obtain ⟨j, hj, rfl, hbr⟩ := hrel
    have HR := Lib.hid (And.intro (onB' H3.out.1 hbr) (And.intro (H3.out.2.1.below hbr) (And.intro (H3.out.2.2.below hbr) hbr)))
    clear hbr
    have p0 := HR.out.2.1.1 0 _ rfl
    have q0 := HR.out.2.2.1.1 0 _ rfl
    by_cases gj : j < ds.length
    · have gj' : (j : Int) < (ds.length : Int) := by omega
      obtain ⟨g1, ea1, kk1, ht1⟩ := own_at HC.out.1 (by omega)
      obtain ⟨g2, ea2, kk2, ht2⟩ := own_at HC.out.2 (by omega)
      subst ea1
      subst ea2
      have z0 := later' HR.out.1 (ht1 _ _ (declV_at gj).1)
      have z1 := later' HR.out.1 (ht1 _ _ (declV_at gj).2)
      have v0 := later' HR.out.1 (ht2 _ _ (declV_at gj).1)
      have v1 := later' HR.out.1 (ht2 _ _ (declV_at gj).2)
      clear ht1 ht2
      generalize ds[j] = tk at *
      obtain ⟨tn, ta⟩ := tk
      simp only at z0 z1 v0 v1
      have hds := fun W => decl_same (tx tn) ta W
      have ej : IntKind.i64.wrap ((j : Int) + 1) = (j : Int) + 1 := by rw [IntKind.wrap_i64]; omega
      have b0 : (0 : Int) ≤ (j : Int) := by omega
      go_wp2_with fail
      go_quiet (fail)
      have HE := Lib.hid (sdrewN HR.out.2.2.2 nq)
      go_wp2_with fail
      exact ⟨⟨j + 1, by omega, by go_num, HE.out⟩, by simp [RowKit.intOf]; omega⟩
    · obtain rfl : j = ds.length := by omega
      go_wp2_with fail
      go_ret
      exact ⟨rfl, HR.out.1⟩

end Go.Proofs.YtbnmmbjajheedaaGreatDoor

/- The parser's answer without its lines is the tokens' without theirs. -/
namespace Go.Proofs.YtbnmmbjajheedaaGreatDoor
open Go.RowKit Go.Lib

/-- The same tokens, on whatever lines. -/
def Lk (r r' : List Tok) : Prop := r.map (·.1) = r'.map (·.1)
theorem Lk.len {r r' : List Tok} (h : Lk r r') : r.length = r'.length := by simpa using congrArg List.length h
theorem Lk.shape {r r' : List Tok} (h : Lk r r') : shapeL r = shapeL r' := by
  cases r <;> cases r' <;> simp [Lk] at h
  · rfl
  · exact congrArg shapeT h.1
theorem Lk.empty {r r' : List Tok} (h : Lk r r') : (r = []) = (r' = []) := by
  cases r <;> cases r' <;> simp [Lk] at h <;> simp
def LL {α : Type} (R : α → α → Prop) (o o' : Out α) : Prop :=
  match o, o' with
  | .ok a _ r, .ok b _ r' => R a b ∧ Lk r r'
  | .bad e _, .bad e' _ => e = e'
  | _, _ => False
def LLP {α : Type} (R : α → α → Prop) (p : Par α) : Prop := ∀ l l' r r', Lk r r' → LL R (p l r) (p l' r')
theorem LL.bind {α β : Type} {R : α → α → Prop} {S : β → β → Prop} {o o' : Out α} {f f' : α → Int → List Tok → Out β} (h : LL R o o') (hf : ∀ a a' l l' r r', R a a' → Lk r r' → LL S (f a l r) (f' a' l' r')) : LL S (o.bind f) (o'.bind f') := by
  cases o <;> cases o' <;> simp only [LL] at h
  · exact hf _ _ _ _ _ _ h.1 h.2
  · exact h
abbrev TkE (a b : Tok) : Prop := a.1 = b.1
theorem refuse_ll {α : Type} (R : α → α → Prop) (e : Int) : LLP R (refuseO e) := by
  intro l l' r r' h
  cases r <;> cases r' <;> simp [Lk] at h <;> simp [refuseO, LL]
theorem take_ll : LLP TkE takeO := by
  intro l l' r r' h
  cases r <;> cases r' <;> simp [Lk] at h <;> simp [takeO, LL]
  exact ⟨h.1, h.2⟩
theorem want_ll (s : Sh) : LLP TkE (wantO s) := by
  intro l l' r r' h
  unfold wantO
  rw [h.shape]
  split
  · exact take_ll _ _ _ _ h
  · exact refuse_ll _ _ _ _ _ _ h
theorem names_ll : ∀ (r r' : List Tok) (l l' : Int) (acc : List Nm), Lk r r' → (namesO l r acc).1 = (namesO l' r' acc).1 ∧ Lk (namesO l r acc).2.2 (namesO l' r' acc).2.2
  | [], [], _, _, _, _ => ⟨rfl, rfl⟩
  | [], _ :: _, _, _, _, h => by simp [Lk] at h
  | _ :: _, [], _, _, _, h => by simp [Lk] at h
  | x :: r, y :: r', l, l', acc, h => by
    have h' := h
    simp only [Lk, List.map_cons, List.cons.injEq] at h
    unfold namesO
    rw [h.1]
    split
    · exact names_ll r r' x.2 y.2 _ h.2
    · exact ⟨rfl, h'⟩
theorem bindO_ll {ex : Par Ex} (hx : LLP Eq ex) : LLP Eq (bindO ex) := by
  intro l l' r r' h
  unfold bindO
  refine (want_ll _ _ _ _ _ h).bind fun a a' l l' r r' e h => ?_
  have hn := names_ll r r' l l' [] h
  refine (want_ll _ _ _ _ _ hn.2).bind fun b b' l2 l2' r2 r2' _ h => ?_
  refine (hx _ _ _ _ h).bind fun c c' l3 l3' r3 r3' e3 h => ?_
  refine ⟨?_, h⟩
  rw [show a.1 = a'.1 from e, hn.1, e3]
theorem moreO_ll {α : Type} {item : Par α} (hx : LLP Eq item) : ∀ n acc, LLP Eq (moreO item n acc)
  | 0, acc => fun _ _ _ _ h => ⟨rfl, h⟩
  | n + 1, acc => by
    intro l l' r r' h
    unfold moreO
    rw [h.shape]
    split
    · refine (take_ll _ _ _ _ h).bind fun a a' l l' r r' e h => ?_
      refine (hx _ _ _ _ h).bind fun c c' l3 l3' r3 r3' e3 h => ?_
      subst e3
      exact moreO_ll hx n _ _ _ _ _ h
    · exact ⟨rfl, h⟩
theorem someO_ll {α : Type} {item : Par α} (hx : LLP Eq item) : LLP Eq (someO item) := by
  intro l l' r r' h
  unfold someO
  refine (hx _ _ _ _ h).bind fun c c' l3 l3' r3 r3' e3 h => ?_
  subst e3
  rw [h.len]
  exact moreO_ll hx _ _ _ _ _ _ h
theorem innerO_ll {ex : Par Ex} (hx : LLP Eq ex) : LLP Eq (innerO ex) := by
  intro l l' r r' h
  unfold innerO
  refine (want_ll _ _ _ _ _ h).bind fun a a' l l' r r' e h => ?_
  refine (hx _ _ _ _ h).bind fun c c' l3 l3' r3 r3' e3 h => ?_
  refine (want_ll _ _ _ _ _ h).bind fun a a' l l' r r' e h => ?_
  exact ⟨e3, h⟩
theorem atomO_ll {ex : Par Ex} (hx : LLP Eq ex) : LLP Eq (atomO ex) := by
  intro l l' r r' h
  unfold atomO
  rw [h.shape]
  split
  · exact (take_ll _ _ _ _ h).bind fun a a' l l' r r' e h => ⟨by rw [show a.1 = a'.1 from e], h⟩
  split
  · exact (take_ll _ _ _ _ h).bind fun a a' l l' r r' e h => ⟨by rw [show a.1 = a'.1 from e], h⟩
  split
  · exact (take_ll _ _ _ _ h).bind fun a a' l l' r r' e h => ⟨by rw [show a.1 = a'.1 from e], h⟩
  split
  · exact (take_ll _ _ _ _ h).bind fun a a' l l' r r' e h => ⟨by rw [show a.1 = a'.1 from e], h⟩
  split
  · exact innerO_ll hx _ _ _ _ h
  · exact refuse_ll _ _ _ _ _ _ h
theorem atomsO_ll {ex : Par Ex} (hx : LLP Eq ex) : ∀ n acc, LLP Eq (atomsO ex n acc)
  | 0, acc => fun _ _ _ _ h => ⟨rfl, h⟩
  | n + 1, acc => by
    intro l l' r r' h
    unfold atomsO
    rw [h.shape]
    split
    · refine (atomO_ll hx _ _ _ _ h).bind fun c c' l3 l3' r3 r3' e3 h => ?_
      subst e3
      exact atomsO_ll hx n _ _ _ _ _ h
    · exact ⟨rfl, h⟩
theorem rowO_ll {ex : Par Ex} (hx : LLP Eq ex) : LLP Eq (rowO ex) := by
  intro l l' r r' h
  unfold rowO
  rw [h.shape]
  refine (atomO_ll hx _ _ _ _ h).bind fun c c' l3 l3' r3 r3' e3 h => ?_
  subst e3
  rw [h.len]
  refine (atomsO_ll hx _ _ _ _ _ _ h).bind fun d d' l3 l3' r3 r3' e3 h => ?_
  subst e3
  exact ⟨rfl, h⟩
theorem rowsO_ll {ex : Par Ex} (hx : LLP Eq ex) : LLP Eq (rowsO ex) := by
  intro l l' r r' h
  unfold rowsO
  refine (rowO_ll hx _ _ _ _ h).bind fun c c' l3 l3' r3 r3' e3 h => ?_
  subst e3
  rw [h.shape]
  split
  · refine (take_ll _ _ _ _ h).bind fun a a' l l' r r' e h => ?_
    refine (rowO_ll hx _ _ _ _ h).bind fun d d' l3 l3' r3 r3' e3 h => ?_
    exact ⟨by rw [show a.1 = a'.1 from e, e3], h⟩
  · exact ⟨rfl, h⟩
theorem letO_ll {ex : Par Ex} (hx : LLP Eq ex) : LLP Eq (letO ex) := by
  intro l l' r r' h
  unfold letO
  refine (want_ll _ _ _ _ _ h).bind fun a a' l l' r r' e h => ?_
  refine (someO_ll (bindO_ll hx) _ _ _ _ h).bind fun c c' l3 l3' r3 r3' e3 h => ?_
  refine (want_ll _ _ _ _ _ h).bind fun a a' l l' r r' e h => ?_
  refine (hx _ _ _ _ h).bind fun d d' l3 l3' r3 r3' e4 h => ?_
  exact ⟨by rw [e3, e4], h⟩
theorem altO_ll {ex : Par Ex} (hx : LLP Eq ex) : LLP Eq (altO ex) := by
  intro l l' r r' h
  unfold altO
  rw [h.shape]
  split
  · refine (take_ll _ _ _ _ h).bind fun a a' l l' r r' e h => ?_
    have hn := names_ll r r' l l' [] h
    refine (want_ll _ _ _ _ _ hn.2).bind fun b b' l2 l2' r2 r2' _ h => ?_
    refine (hx _ _ _ _ h).bind fun c c' l3 l3' r3 r3' e3 h => ?_
    exact ⟨by rw [show a.1 = a'.1 from e, hn.1, e3], h⟩
  split
  · refine (take_ll _ _ _ _ h).bind fun a a' l l' r r' e h => ?_
    refine (want_ll _ _ _ _ _ h).bind fun b b' l2 l2' r2 r2' _ h => ?_
    refine (hx _ _ _ _ h).bind fun c c' l3 l3' r3 r3' e3 h => ?_
    exact ⟨by rw [show a.1 = a'.1 from e, e3], h⟩
  · refine (want_ll _ _ _ _ _ h).bind fun a a' l l' r r' e h => ?_
    refine (want_ll _ _ _ _ _ h).bind fun b b' l2 l2' r2 r2' _ h => ?_
    refine (hx _ _ _ _ h).bind fun c c' l3 l3' r3 r3' e3 h => ?_
    exact ⟨by rw [show a.1 = a'.1 from e, e3], h⟩
theorem caseO_ll {ex : Par Ex} (hx : LLP Eq ex) : LLP Eq (caseO ex) := by
  intro l l' r r' h
  unfold caseO
  refine (want_ll _ _ _ _ _ h).bind fun a a' l l' r r' e h => ?_
  refine (hx _ _ _ _ h).bind fun c c' l3 l3' r3 r3' e3 h => ?_
  subst e3
  refine (want_ll _ _ _ _ _ h).bind fun a a' l l' r r' e h => ?_
  refine (want_ll _ _ _ _ _ h).bind fun a a' l l' r r' e h => ?_
  rw [h.shape]
  split
  · exact (want_ll _ _ _ _ _ h).bind fun a a' l l' r r' e h => ⟨rfl, h⟩
  · refine (someO_ll (altO_ll hx) _ _ _ _ h).bind fun d d' l3 l3' r3 r3' e3 h => ?_
    subst e3
    exact (want_ll _ _ _ _ _ h).bind fun a a' l l' r r' e h => ⟨rfl, h⟩
theorem lamO_ll {ex : Par Ex} (hx : LLP Eq ex) : LLP Eq (lamO ex) := by
  intro l l' r r' h
  unfold lamO
  refine (want_ll _ _ _ _ _ h).bind fun a a' l l' r r' e h => ?_
  have hn := names_ll r r' l l' [] h
  rw [h.shape]
  split
  · refine (want_ll _ _ _ _ _ hn.2).bind fun b b' l2 l2' r2 r2' _ h => ?_
    refine (hx _ _ _ _ h).bind fun c c' l3 l3' r3 r3' e3 h => ?_
    exact ⟨by rw [hn.1, e3], h⟩
  · exact refuse_ll _ _ _ _ _ _ h
theorem exprO_ll : ∀ n d, LLP Eq (exprO n d)
  | 0, _ => fun _ _ _ _ _ => rfl
  | n + 1, d => by
    have hx := exprO_ll n (d + 1)
    intro l l' r r' h
    unfold exprO
    rw [h.shape]
    split
    · split
      · exact refuse_ll _ _ _ _ _ _ h
      split
      · exact letO_ll hx _ _ _ _ h
      split
      · exact caseO_ll hx _ _ _ _ h
      split
      · exact lamO_ll hx _ _ _ _ h
      · exact rowsO_ll hx _ _ _ _ h
    · exact refuse_ll _ _ _ _ _ _ h
theorem declsO_ll : ∀ n acc, LLP Eq (declsO n acc)
  | 0, acc => fun _ _ _ _ h => ⟨rfl, h⟩
  | n + 1, acc => by
    intro l l' r r' h
    unfold declsO
    rw [h.shape]
    split
    · refine (take_ll _ _ _ _ h).bind fun a a' l l' r r' e h => ?_
      rw [h.shape, show a.1 = a'.1 from e]
      split
      · have h0 := h
        refine (take_ll _ _ _ _ h).bind fun b b' l2 l2' r2 r2' e2 h => ?_
        rw [show b.1 = b'.1 from e2]
        split
        · exact refuse_ll _ _ _ _ _ _ h0
        · exact declsO_ll n _ _ _ _ _ h
      · exact refuse_ll _ _ _ _ _ _ h
    · exact ⟨rfl, h⟩
theorem moduleO_ll : ∀ n cs bs, LLP Eq (moduleO n cs bs)
  | 0, _, _ => fun _ _ _ _ h => ⟨rfl, h⟩
  | n + 1, cs, bs => by
    intro l l' r r' h
    unfold moduleO
    simp only [h.empty, h.shape, h.len]
    split
    · exact ⟨rfl, h⟩
    split
    · refine (take_ll _ _ _ _ h).bind fun a a' l l' r r' e h => ?_
      rw [h.len]
      refine (declsO_ll _ _ _ _ _ _ h).bind fun d d' l2 l2' r2 r2' e2 h => ?_
      subst e2
      refine (want_ll _ _ _ _ _ h).bind fun b b' l3 l3' r3 r3' _ h => ?_
      exact moduleO_ll n _ _ _ _ _ _ h
    · refine (bindO_ll (exprO_ll _ _) _ _ _ _ h).bind fun d d' l2 l2' r2 r2' e2 h => ?_
      subst e2
      refine (want_ll _ _ _ _ _ h).bind fun b b' l3 l3' r3 r3' _ h => ?_
      exact moduleO_ll n _ _ _ _ _ _ h
/-- What is read of the same tokens is the same, and so is the fault, but for its line. -/
theorem parseO_ll {T T' : List Tok} (h : Lk T T') : LL Eq (parseO T) (parseO T') := by
  unfold parseO
  rw [h.len]
  exact moduleO_ll _ _ _ _ _ _ _ h

end Go.Proofs.YtbnmmbjajheedaaGreatDoor

/- The sources' example is told. -/
namespace Go.Proofs.YtbnmmbjajheedaaGreatDoor
open Go.RowKit Go.Lib

def exBind : Bnd := ([102], [[120]], .mk 4 [] false 0 [] [.leaf 1 [103], .mk 5 [43] false 0 [] [.leaf 1 [120], .num false 1] [] []] [] [])
def exText : ByteArray := ⟨#[102, 32, 120, 32, 61, 32, 103, 32, 40, 120, 32, 43, 32, 49, 41, 59]⟩
theorem awake_mod : modL exText.data.toList = .ok ([], [exBind]) 1 [] := by kernel_rfl
set_option maxHeartbeats 16000000 in
set_option maxRecDepth 100000 in
theorem pawake_any (w : World) (hS : SG w) (hE : EE w) (hV : Shs w) :
    Calls Tryz.prog 12 #[] w fun e w' => e = .returned (.bool true) ∧ Below w.heap.size w w' := by
  have HP := Lib.hid (parsed_any exText (by decide +kernel) w hS hE hV)
  unfold exText at HP
  clear hS hE hV
  go_enter Tryz.func12, Tryz.ntmps12
  go_wp2_with fail
  refine HP.out.mono ?_
  rintro e w2 ⟨hv, hb⟩
  have hm := awake_mod
  unfold exText at hm
  rw [hm] at hv
  obtain ⟨vc, vb, xb, rfl, hc, hbb, ht⟩ := hv
  replace hc : w2.ownsRow w.heap.size 67 2 vc 0 [] := hc
  replace hbb : w2.ownsRow w.heap.size 51 10 vb 1 xb := hbb
  replace ht : BndsAt w2 (fun g => w.heap.size ≤ g) [exBind] xb := ht
  obtain ⟨a1, c1, rfl, -⟩ := own_shape hc
  obtain ⟨a2, c2, rfl, -⟩ := own_shape hbb
  obtain ⟨g2, ea2, kk2, ht2⟩ := own_at hbb (by decide)
  subst ea2
  obtain ⟨vq, m1, s1, f1, y1, vp1, vk1, vb1, va1, r1, z, z0, z1, z2, z3, z4, z5, z6, z7, z8, z9⟩ := ht.at 0 (by decide)
  change ExAt w2 _ (.mk 4 [] false 0 [] [.leaf 1 [103], .mk 5 [43] false 0 [] [.leaf 1 [120], .num false 1] [] []] [] []) _ at z
  change RowAt w2 _ _ _ _ 1 _ at r1
  cases z with
  | mk k nm f u ps ks bs al _ _ _ _ xk xb xa hp1 hk1 hb1 ha1 tk1 tb1 ta1 =>
  obtain ⟨a3, c3, rfl⟩ := r1.sl
  obtain ⟨a4, c4, rfl⟩ := hk1.sl
  obtain ⟨g4, o4, ea4, kk4, mk4, -, ht4⟩ := hk1.at (by decide)
  subst ea4
  obtain ⟨m3, s3, f3, y3, vp3, vk3, vb3, va3, e3, j0, j1, j2, j3, j4, j5, j6, j7⟩ := tk1.at 1 (by decide)
  cases e3
  have hx := (Below.refl w2.heap.size w2).alloc (Nat.le_refl _) (.cells #[.slice a1 0 c1, .slice (some ⟨g2, 0, none⟩) 1 c2] 26)
  have m1 : (w2.alloc (.cells #[.slice a1 0 c1, .slice (some ⟨g2, 0, none⟩) 1 c2] 26)).cell? ⟨w2.heap.size, 1, none⟩ = some (.slice (some ⟨g2, 0, none⟩) 1 c2) := by simp [go_sem]
  have p0 : w2.cell? ⟨g2, 0, none⟩ = some (.string ⟨#[102]⟩) := ht2 _ _ z0
  have p1 : w2.cell? ⟨g2, 1, none⟩ = some (.slice a3 1 c3) := ht2 _ _ z1
  have p2 : w2.cell? ⟨g2, 2, none⟩ = some (.int .i64 4) := ht2 _ _ z2
  have p7 : w2.cell? ⟨g2, 7, none⟩ = some (.slice (some ⟨g4, o4, none⟩) 2 c4) := ht2 _ _ z7
  have p11 : w2.cell? ⟨g4, o4 + 9, none⟩ = some (.string ⟨#[43]⟩) := ht4 _ _ j1
  replace p0 := later' hx p0
  replace p1 := later' hx p1
  replace p2 := later' hx p2
  replace p7 := later' hx p7
  replace p11 := later' hx p11
  have HX := Lib.hid (onB' hb hx)
  have kc2 : 1 ≤ c2 := kk2
  have kc4 : 2 ≤ c4 := kk4
  clear hx z0 z1 z2 z3 z4 z5 z6 z7 z8 z9 j0 j1 j2 j3 j4 j5 j6 j7 ht hc hbb tk1 tb1 ta1 hp1 hb1 ha1 r1 ht2 ht4 HP hm hb kk2 kk4
  go_upto_region 2 with fail
  generalize (w2.alloc (.cells #[.slice a1 0 c1, .slice (some ⟨g2, 0, none⟩) 1 c2] 26)) = W at *
  go_wp2_with fail
  go_ret
  exact ⟨rfl, HX.out⟩

end Go.Proofs.YtbnmmbjajheedaaGreatDoor

/- ParseParts: its walk. -/
namespace Go.Proofs.YtbnmmbjajheedaaGreatDoor
open Go.RowKit Go.Lib

theorem bytes_app8 (A B : List (Tk × Int)) : bytesT (A ++ B) = bytesT A + bytesT B := by simp [bytesT]

set_option maxHeartbeats 16000000 in
set_option maxRecDepth 100000 in
theorem parts_walk (s : ByteArray) (w : World) (hS : SG w) (hE : EE w) (hV : Shs w) :
    Calls Tryz.prog 4 #[.string s] w fun e w' => e = .returned (.bool true) ∧ Below w.heap.size w w' := by
  have HSE := Lib.hid (And.intro hS (And.intro hE hV))
  clear hS hE hV
  go_enter Tryz.func4, Tryz.ntmps4
  go_wp2_with fail
  refine (pawake_any w HSE.out.1 HSE.out.2.1 HSE.out.2.2).mono ?_
  rintro e w1 ⟨rfl, hb⟩
  have H1 := Lib.hid (And.intro hb (And.intro (HSE.out.1.below hb) (And.intro (HSE.out.2.1.below hb) (HSE.out.2.2.below hb))))
  clear hb HSE
  by_cases g3 : 5000 < s.size
  · have f3 : decide ((5000 : Int) < (s.size : Int)) = true := decide_eq_true (by omega)
    go_wp2_with fail
    go_ret
    exact ⟨rfl, H1.out.1⟩
  have f3 : decide ((5000 : Int) < (s.size : Int)) = false := decide_eq_false (by omega)
  have HL1 := Lib.hid (lex_any s (by omega) w1 H1.out.2.1 H1.out.2.2.1)
  go_wp2_with fail
  clear f3
  refine HL1.out.mono ?_
  intro e w2 h2
  obtain ⟨T, a1, c1, er, line, rfl, hown, hb2, hv⟩ := h2.view
  have H2 := Lib.hid (And.intro (onB' H1.out.1 hb2) (And.intro hown (And.intro (H1.out.2.1.below hb2) (And.intro (H1.out.2.2.1.below hb2) (H1.out.2.2.2.below hb2)))))
  clear h2 hown hb2 HL1
  rcases hv with ⟨hR, rfl, rfl⟩ | ⟨hR, rfl⟩
  · obtain ⟨ho, hn, hb⟩ := lexL_own hR
    have hlb := len_bytes T ho
    rw [← size_eq s] at hb
    have HO := Lib.hid (And.intro ho (And.intro hn (And.intro hb hlb)))
    have HR := Lib.hid hR
    clear ho hn hb hlb hR
    go_wp2_with fail
    go_loopw [6, 7] (fun s6 s7 wr => ∃ (k : Nat) (B : ByteArray), k ≤ T.length ∧ s6 = .string B ∧ s7 = .int .i64 k ∧ B.data.toList = spaced (T.take k) ∧ Below w2.heap.size w2 wr) (fun _ s7 _ => T.length - (RowKit.intOf s7).toNat)
    case atStart => exact ⟨0, ⟨#[]⟩, Nat.zero_le _, rfl, rfl, rfl, Below.refl _ _⟩
    case round =>
      obtain ⟨k, B, hk, rfl, rfl, hB, hbr⟩ := hrel
      have HB := Lib.hid (And.intro hB hbr)
      clear hB hbr
      have hBz : B.size ≤ 10000 := by
        have h1 : (spaced (T.take k)).length = bytesT (T.take k) + (T.take k).length := spaced_len _
        have h2 : bytesT T = bytesT (T.take k) + bytesT (T.drop k) := by rw [← bytes_app8, List.take_append_drop]
        have h3 := HO.out.2.2.1
        have h4 := HO.out.2.2.2
        rw [size_eq B, HB.out.1, h1, List.length_take]
        omega
      by_cases hlt : k < T.length
      · have hlt' : (k : Int) < (T.length : Int) := by omega
        obtain ⟨g1, ea1, ht1⟩ := own_tok H2.out.2.1 hlt
        have hox := HO.out.1 _ (List.getElem_mem hlt)
        have hbx : (T[k]).1.t.length ≤ s.size := Nat.le_trans (bytes_mem (List.getElem_mem hlt)) HO.out.2.2.1
        have hts : spaced (T.take (k + 1)) = spaced (T.take k) ++ (T[k]).1.t ++ [32] := by rw [← spaced_snoc, List.take_succ_eq_append_getElem hlt]
        subst ea1
        replace ht1 := ht1.later HB.out.2
        generalize T[k] = tk at *
        obtain ⟨⟨kd, tx, ff, xx⟩, ln⟩ := tk
        simp only at hox hbx hts
        obtain ⟨c, t, htx, -⟩ := hox
        simp only at htx
        obtain ⟨p0, p1, p2, p3, p4⟩ := ht1
        simp only at p0 p1 p2 p3 p4
        have hbt : (⟨tx.toArray⟩ : ByteArray).data.toList = tx := back_list tx
        generalize (⟨tx.toArray⟩ : ByteArray) = bt at *
        have hbz : bt.size = tx.length := by rw [size_eq, hbt]
        have q1 : ((bt.size : Int) == 0) = false := by rw [hbz, htx, List.length_cons]; simp; omega
        have q2 : decide (s.size < bt.size) = false := decide_eq_false (by omega)
        have hm1 : B.size + bt.size + 1 ≤ 20000 := by omega
        have HT := Lib.hid (And.intro hts hbt)
        clear hts hbt hbz htx hbx p0 p2 p3 p4
        have HXD := Lib.hid (onB' HB.out.2 (show Below wr.heap.size wr wr.drew from ⟨rfl, rfl, rfl, Nat.le_refl _, fun _ _ => rfl⟩))
        have b0 : (0 : Int) ≤ (k : Int) := by omega
        have ek : IntKind.i64.wrap ((k : Int) + 1) = (k : Int) + 1 := by rw [IntKind.wrap_i64]; have := HO.out.2.1; omega
        go_wp2_with fail
        exact ⟨⟨k + 1, B ++ bt ++ ⟨#[32]⟩, by omega, rfl, by go_num, by rw [cat_list, cat_list, HB.out.1, HT.out.2, HT.out.1], HB.out.2⟩, by simp [RowKit.intOf]; omega⟩
      · obtain rfl : k = T.length := by omega
        have hBT : B.data.toList = spaced T := by rw [HB.out.1, List.take_length]
        have hsp := lexL_spaced HO.out.1 HO.out.2.1
        rw [← hBT] at hsp
        have hmo : LL Eq (modL s.data.toList) (modL B.data.toList) := by
          unfold modL
          rw [HR.out, hsp]
          exact parseO_ll (by simp [Lk])
        have HM := Lib.hid hmo
        have HP1 := Lib.hid (parsed_any s (by omega) wr (H2.out.2.2.1.below HB.out.2) (H2.out.2.2.2.1.below HB.out.2) (H2.out.2.2.2.2.below HB.out.2))
        clear hBT hsp hmo
        go_wp2_with fail
        refine HP1.out.mono ?_
        rintro e w3 ⟨hv1, hb3⟩
        have hb32 := HB.out.2.trans (hb3.mono HB.out.2.size)
        have H3 := Lib.hid (And.intro (onB' H2.out.1 hb32) (And.intro (H2.out.2.2.1.below hb32) (And.intro (H2.out.2.2.2.1.below hb32) (H2.out.2.2.2.2.below hb32))))
        have HP2 := Lib.hid (fun (W' : World) (hb : Below w3.heap.size w3 W') => parsed_any B (by omega) W' (H3.out.2.1.below hb) (H3.out.2.2.1.below hb) (H3.out.2.2.2.below hb))
        have HV1 := Lib.hid hv1
        clear hb32 hb3 hv1 HP1
        cases e1 : modL s.data.toList with
        | ok md l1 r1 =>
          cases e2 : modL B.data.toList with
          | ok md' l2 r2 =>
            have hv1 := HV1.out
            rw [e1] at hv1
            have hme := HM.out
            rw [e1, e2] at hme
            obtain ⟨rfl, -⟩ := hme
            obtain ⟨vc, vb, xb, rfl, hc, hbb, ht⟩ := hv1
            have HO1 := Lib.hid (And.intro hc (And.intro hbb ht))
            clear hc hbb ht HV1 HM
            obtain ⟨a3, c3, rfl, -⟩ := own_shape HO1.out.1
            obtain ⟨a4, c4, rfl, -⟩ := own_shape HO1.out.2.1
            have hx := (Below.refl w3.heap.size w3).alloc (Nat.le_refl _) (.cells #[.slice a3 md.1.length c3, .slice a4 md.2.length c4] 26)
            have hB1 := BoxW.alloc w3 #[.slice a3 md.1.length c3, .slice a4 md.2.length c4] 26
            have HX1 := Lib.hid (And.intro hx hB1)
            clear hx hB1
            go_wp2_with fail
            refine (HP2.out _ HX1.out.1).mono ?_
            rintro e w4 ⟨hv2, hb4⟩
            rw [e2] at hv2
            obtain ⟨vc2, vb2, xb2, rfl, hc2, hbb2, ht2⟩ := hv2
            obtain ⟨a5, c5, rfl, -⟩ := own_shape hc2
            obtain ⟨a6, c6, rfl, -⟩ := own_shape hbb2
            have hy := (Below.refl w4.heap.size w4).alloc (Nat.le_refl _) (.cells #[.slice a5 md.1.length c5, .slice a6 md.2.length c6] 26)
            have hxy := onB' HX1.out.1 (onB' hb4 hy)
            have HS := Lib.hid (same_any md.1 md.2 _ _ _ _ _ _ _ _ _ _ _ (own_below HO1.out.1 hxy) (own_below HO1.out.2.1 hxy) (HO1.out.2.2.move fun g hk lt => ⟨hk, hxy.block g lt⟩) (own_below hc2 hy) (own_below hbb2 hy) (ht2.move fun g hk lt => ⟨hk, hy.block g lt⟩))
            clear hc2 hbb2 ht2
            have p0 := (HX1.out.2.below (onB' hb4 hy)).1 0 _ rfl
            have p1 := (HX1.out.2.below (onB' hb4 hy)).1 1 _ rfl
            have q0 := (BoxW.alloc w4 #[.slice a5 md.1.length c5, .slice a6 md.2.length c6] 26).1 0 _ rfl
            have q1 := (BoxW.alloc w4 #[.slice a5 md.1.length c5, .slice a6 md.2.length c6] 26).1 1 _ rfl
            have HXY := Lib.hid hxy
            clear hy hb4 hxy HP2
            go_upto_region 14 with fail
            generalize (w4.alloc (.cells #[.slice a5 md.1.length c5, .slice a6 md.2.length c6] 26)) = W5 at *
            go_wp2_with fail
            refine HS.out.mono ?_
            rintro e w6 ⟨rfl, hb6⟩
            have HE := Lib.hid (onB' H3.out.1 (onB' HXY.out hb6))
            clear hb6
            go_wp2_with fail
            go_ret
            exact ⟨rfl, HE.out⟩
          | bad er2 ln2 =>
            have hme := HM.out
            rw [e1, e2] at hme
            exact absurd hme id
        | bad er1 ln1 =>
          cases e2 : modL B.data.toList with
          | ok md' l2 r2 =>
            have hme := HM.out
            rw [e1, e2] at hme
            exact absurd hme id
          | bad er2 ln2 =>
            have hv1 := HV1.out
            rw [e1] at hv1
            have hme := HM.out
            rw [e1, e2] at hme
            have hme' : er1 = er2 := hme
            subst hme'
            obtain ⟨hne, rfl⟩ := hv1
            clear hme HV1 HM
            have u2 : (er1 == er1) = true := by simp
            have hx := (Below.refl w3.heap.size w3).alloc (Nat.le_refl _) (.cells #[.slice none 0 0, .slice none 0 0] 26)
            have hB1 := BoxW.alloc w3 #[.slice none 0 0, .slice none 0 0] 26
            have HX1 := Lib.hid (And.intro hx hB1)
            clear hx hB1
            go_wp2_with fail
            refine (HP2.out _ HX1.out.1).mono ?_
            rintro e w4 ⟨hv2, hb4⟩
            rw [e2] at hv2
            obtain ⟨-, rfl⟩ := hv2
            have hy := (Below.refl w4.heap.size w4).alloc (Nat.le_refl _) (.cells #[.slice none 0 0, .slice none 0 0] 26)
            have hxy := onB' HX1.out.1 (onB' hb4 hy)
            have HS := Lib.hid (same_any [] [] (w4.alloc (.cells #[.slice none 0 0, .slice none 0 0] 26)) 0 0 (.slice none 0 0) (.slice none 0 0) (.slice none 0 0) (.slice none 0 0) [] [] (fun _ => True) (fun _ => True) (World.ownsRow_nil _ _ _ _) (World.ownsRow_nil _ _ _ _) .nil (World.ownsRow_nil _ _ _ _) (World.ownsRow_nil _ _ _ _) .nil)
            have p0 := (HX1.out.2.below (onB' hb4 hy)).1 0 _ rfl
            have p1 := (HX1.out.2.below (onB' hb4 hy)).1 1 _ rfl
            have q0 := (BoxW.alloc w4 #[.slice none 0 0, .slice none 0 0] 26).1 0 _ rfl
            have q1 := (BoxW.alloc w4 #[.slice none 0 0, .slice none 0 0] 26).1 1 _ rfl
            have HXY := Lib.hid hxy
            clear hy hb4 hxy HP2
            go_upto_region 14 with fail
            generalize (w4.alloc (.cells #[.slice none 0 0, .slice none 0 0] 26)) = W5 at *
            go_wp2_with fail
            refine HS.out.mono ?_
            rintro e w6 ⟨rfl, hb6⟩
            have HE := Lib.hid (onB' H3.out.1 (onB' HXY.out hb6))
            clear hb6
            go_wp2_with fail
            go_ret
            exact ⟨rfl, HE.out⟩
  · have h0 := lexL_bad hR
    have g0 : (er != 0) = true := by simpa using h0
    clear hR h0
    go_wp2_with fail
    go_ret
    exact ⟨rfl, H2.out.1⟩

end Go.Proofs.YtbnmmbjajheedaaGreatDoor

/- What the rows' list of the program's tables and errors gives: the signs, and the two errors. -/
namespace Go.Proofs.YtbnmmbjajheedaaGreatDoor
open Go.RowKit Go.ChangeAt Go.Stop Go.Extern.Stop

def signData {H : Type} (x : List UInt8) (y : Int) : DataW H := .agg [.lit (.string x), .lit (.int .i64 y)]

/-- An array of a text and an int that reads as these holds them, cell for cell. -/
theorem cells_of_signs {H : Type} {enc : TypeId × Value → H} {P : Program} {w : World} {base : Nat} {sp : Nat → Bool} {held : Bool} {fuel : Nat} {t e i0 i1 : TypeId} {n : Nat} {f0 f1 : Field} {cs : List Value} {xs : List (List UInt8 × Int)} {p : List MemPlace}
    (ht : P.underlying t = some (.array n e)) (he : P.underlying e = some (.struct #[f0, f1])) (h0 : f0.type = i0) (h1 : f1.type = i1) (hi0 : P.underlying i0 = some .string) (hi1 : P.underlying i1 = some (.int .i64))
    (o0 : f0.offset = 0) (o1 : f1.offset = 1) (hci0 : P.cellsOf i0 = 1) (hci1 : P.cellsOf i1 = 1) (hce : P.cellsOf e = 2) (hct : P.cellsOf t = n * 2)
    (h : DataW.trod enc P w base sp held fuel t cs = some (.agg (xs.map fun x => signData x.1 x.2), p)) :
    ∀ j x, xs[j]? = some x → (∃ s : ByteArray, s.data.toList = x.1 ∧ cs[j * 2]? = some (.string s)) ∧ cs[j * 2 + 1]? = some (.int .i64 x.2) := by
  cases fuel with
  | zero => simp [DataW.trod] at h
  | succ fuel =>
    simp only [DataW.trod, ht, hce, hct] at h
    split at h
    · rename_i hl
      obtain ⟨ys, hm, hx⟩ := Option.map_eq_some_iff.1 h
      have hxs : ys.map (·.1) = xs.map fun x => (signData x.1 x.2 : DataW H) := by
        have := congrArg Prod.fst hx
        simpa using this
      have hyl : ys.length = n := by simpa using Lib.mapM_length hm
      intro j x hj
      have hlen : xs.length = n := by
        have := congrArg List.length hxs
        simp at this
        omega
      have hjn : j < n := by have := (List.getElem?_eq_some_iff.1 hj).1; omega
      obtain ⟨b, hb, hf⟩ := Lib.mapM_at hm j j (by simp [hjn])
      have hbd : b.1 = signData x.1 x.2 := by
        have h2 : (ys.map (·.1))[j]? = some b.1 := by simp [hb]
        rw [hxs] at h2
        simpa [hj] using h2.symm
      obtain ⟨zs, m, -, hbz, hcl, hzl, hat⟩ := DataW.trod_struct he hf
      subst hbz
      simp only [signData, DataW.agg.injEq] at hbd
      have a0 := hat 0 f0 rfl
      have a1 := hat 1 f1 rfl
      rw [h0, hci0, o0] at a0
      rw [h1, hci1, o1] at a1
      obtain ⟨z0, z1, rfl⟩ : ∃ z0 z1, zs = [z0, z1] := by
        match zs, hzl with
        | [z0, z1], _ => exact ⟨z0, z1, rfl⟩
      obtain ⟨u, hu, rfl, -⟩ := DataW.trod_string hi0 a0
      obtain ⟨v, hv, rfl, -⟩ := DataW.trod_int hi1 a1
      simp only [List.map_cons, List.map_nil, List.cons.injEq, DataW.lit.injEq, Lit.int.injEq, Lit.string.injEq, true_and, and_true] at hbd
      obtain ⟨e0, rfl⟩ := hbd
      refine ⟨⟨u, e0, ?_⟩, ?_⟩
      · have := congrArg (·[0]?) hu
        simpa [List.getElem?_take, List.getElem?_drop] using this
      · have := congrArg (·[0]?) hv
        simpa [List.getElem?_take, List.getElem?_drop] using this
    · cases h

/-- The signs as the row lists them. -/
def sgD : List (List UInt8 × Int) := signsB.map fun x => (x.1.data.toList, x.2)

theorem own : ownKnob Tryz.prog.godebug = none := by kernel_rfl
theorem star : "*" ++ "errors.errorString" = "*errors.errorString" := by decide
theorem rowErr (u : TypeId) (h : Tryz.prog.typeName? 3 u = some "*errors.errorString") : u = 225 :=
  typeName_ptr_named (nm := "errors.errorString") (by rw [star]; kernel_rfl) (by kernel_rfl) (by decide) u (by rw [star]; exact h)

theorem sg_at (j : Nat) (v : Value) (h : sgL[j]? = some v) : ∃ x, signsB[j / 2]? = some x ∧ ((j % 2 = 0 ∧ v = .string x.1) ∨ (j % 2 = 1 ∧ v = .int .i64 x.2)) := by
  match j, h with
  | 0, h => exact ⟨_, rfl, Or.inl ⟨rfl, (Option.some.inj h).symm⟩⟩
  | 1, h => exact ⟨_, rfl, Or.inr ⟨rfl, (Option.some.inj h).symm⟩⟩
  | 2, h => exact ⟨_, rfl, Or.inl ⟨rfl, (Option.some.inj h).symm⟩⟩
  | 3, h => exact ⟨_, rfl, Or.inr ⟨rfl, (Option.some.inj h).symm⟩⟩
  | 4, h => exact ⟨_, rfl, Or.inl ⟨rfl, (Option.some.inj h).symm⟩⟩
  | 5, h => exact ⟨_, rfl, Or.inr ⟨rfl, (Option.some.inj h).symm⟩⟩
  | 6, h => exact ⟨_, rfl, Or.inl ⟨rfl, (Option.some.inj h).symm⟩⟩
  | 7, h => exact ⟨_, rfl, Or.inr ⟨rfl, (Option.some.inj h).symm⟩⟩
  | 8, h => exact ⟨_, rfl, Or.inl ⟨rfl, (Option.some.inj h).symm⟩⟩
  | 9, h => exact ⟨_, rfl, Or.inr ⟨rfl, (Option.some.inj h).symm⟩⟩
  | 10, h => exact ⟨_, rfl, Or.inl ⟨rfl, (Option.some.inj h).symm⟩⟩
  | 11, h => exact ⟨_, rfl, Or.inr ⟨rfl, (Option.some.inj h).symm⟩⟩
  | 12, h => exact ⟨_, rfl, Or.inl ⟨rfl, (Option.some.inj h).symm⟩⟩
  | 13, h => exact ⟨_, rfl, Or.inr ⟨rfl, (Option.some.inj h).symm⟩⟩
  | 14, h => exact ⟨_, rfl, Or.inl ⟨rfl, (Option.some.inj h).symm⟩⟩
  | 15, h => exact ⟨_, rfl, Or.inr ⟨rfl, (Option.some.inj h).symm⟩⟩
  | 16, h => exact ⟨_, rfl, Or.inl ⟨rfl, (Option.some.inj h).symm⟩⟩
  | 17, h => exact ⟨_, rfl, Or.inr ⟨rfl, (Option.some.inj h).symm⟩⟩
  | 18, h => exact ⟨_, rfl, Or.inl ⟨rfl, (Option.some.inj h).symm⟩⟩
  | 19, h => exact ⟨_, rfl, Or.inr ⟨rfl, (Option.some.inj h).symm⟩⟩
  | 20, h => exact ⟨_, rfl, Or.inl ⟨rfl, (Option.some.inj h).symm⟩⟩
  | 21, h => exact ⟨_, rfl, Or.inr ⟨rfl, (Option.some.inj h).symm⟩⟩
  | 22, h => exact ⟨_, rfl, Or.inl ⟨rfl, (Option.some.inj h).symm⟩⟩
  | 23, h => exact ⟨_, rfl, Or.inr ⟨rfl, (Option.some.inj h).symm⟩⟩
  | 24, h => exact ⟨_, rfl, Or.inl ⟨rfl, (Option.some.inj h).symm⟩⟩
  | 25, h => exact ⟨_, rfl, Or.inr ⟨rfl, (Option.some.inj h).symm⟩⟩
  | 26, h => exact ⟨_, rfl, Or.inl ⟨rfl, (Option.some.inj h).symm⟩⟩
  | 27, h => exact ⟨_, rfl, Or.inr ⟨rfl, (Option.some.inj h).symm⟩⟩
  | 28, h => exact ⟨_, rfl, Or.inl ⟨rfl, (Option.some.inj h).symm⟩⟩
  | 29, h => exact ⟨_, rfl, Or.inr ⟨rfl, (Option.some.inj h).symm⟩⟩
  | 30, h => exact ⟨_, rfl, Or.inl ⟨rfl, (Option.some.inj h).symm⟩⟩
  | 31, h => exact ⟨_, rfl, Or.inr ⟨rfl, (Option.some.inj h).symm⟩⟩
  | 32, h => exact ⟨_, rfl, Or.inl ⟨rfl, (Option.some.inj h).symm⟩⟩
  | 33, h => exact ⟨_, rfl, Or.inr ⟨rfl, (Option.some.inj h).symm⟩⟩
  | 34, h => exact ⟨_, rfl, Or.inl ⟨rfl, (Option.some.inj h).symm⟩⟩
  | 35, h => exact ⟨_, rfl, Or.inr ⟨rfl, (Option.some.inj h).symm⟩⟩
  | 36, h => exact ⟨_, rfl, Or.inl ⟨rfl, (Option.some.inj h).symm⟩⟩
  | 37, h => exact ⟨_, rfl, Or.inr ⟨rfl, (Option.some.inj h).symm⟩⟩
  | 38, h => exact ⟨_, rfl, Or.inl ⟨rfl, (Option.some.inj h).symm⟩⟩
  | 39, h => exact ⟨_, rfl, Or.inr ⟨rfl, (Option.some.inj h).symm⟩⟩
  | 40, h => exact ⟨_, rfl, Or.inl ⟨rfl, (Option.some.inj h).symm⟩⟩
  | 41, h => exact ⟨_, rfl, Or.inr ⟨rfl, (Option.some.inj h).symm⟩⟩
  | j + 42, h => simp [sgL] at h

set_option maxRecDepth 100000 in
theorem env_all {W : World} (h0 : laidMetH Tryz.prog Rows.parseTellsRow.laid W) : SG W ∧ EE W := by
  have h' : laidMet Tryz.prog Rows.parseTellsRow.laid W := by
    have h := h0
    rw [MakeChecks.laidMetH_plain _ _ _ (by kernel_rfl)] at h
    exact h
  have h2 := laidMet.tail h'
  have h3 := laidMet.tail h2
  have h4 := laidMet.tail h3
  have h5 := laidMet.tail h4
  have h6 := laidMet.tail h5
  have h7 := laidMet.tail h6
  have gR : Tryz.prog.globalNamed "strconv.ErrRange" = some 24 := by kernel_rfl
  have gS : Tryz.prog.globalNamed "strconv.ErrSyntax" = some 23 := by kernel_rfl
  obtain ⟨a1, s1, v1, _, _, _⟩ := laid_sentinel h5 gR (show (Tryz.prog.globals[24]?).map (·.type) = some 93 by kernel_rfl) Tryz.underlying93 rowErr Tryz.underlying225 Tryz.underlying227 rfl rfl Tryz.underlying9 (by kernel_rfl) (by kernel_rfl)
  obtain ⟨a2, s2, v2, _, _, _⟩ := laid_sentinel h6 gS (show (Tryz.prog.globals[23]?).map (·.type) = some 93 by kernel_rfl) Tryz.underlying93 rowErr Tryz.underlying225 Tryz.underlying227 rfl rfl Tryz.underlying9 (by kernel_rfl) (by kernel_rfl)
  have c1 : W.cell? ⟨24, 0, none⟩ = some (.iface 225 (.pointer (some a1))) := by simpa using World.var?_cell gR v1 0
  have c2 : W.cell? ⟨23, 0, none⟩ = some (.iface 225 (.pointer (some a2))) := by simpa using World.var?_cell gS v2 0
  refine ⟨?_, ⟨_, c2, Or.inr ⟨_, _, rfl⟩⟩, ⟨_, c1, Or.inr ⟨_, _, rfl⟩⟩⟩
  have hg : Tryz.prog.globalNamed "treadwheel/lex.signs" = some 18 := by kernel_rfl
  have hty : (Tryz.prog.globals[18]?).map (·.type) = some 145 := by kernel_rfl
  obtain ⟨ps, ⟨g', t', cs, fuel, p, q, hg', ht', hvar, hd, _, _⟩, _⟩ := h7
  obtain rfl := Option.some.inj (hg.symm.trans hg')
  obtain rfl := Option.some.inj (hty.symm.trans ht')
  have hc := cells_of_signs (xs := sgD) (n := 21) (e := 120) (i0 := 9) (i1 := 3) (f0 := ⟨"text", 9, 0, false, "", "treadwheel/lex", 0⟩) (f1 := ⟨"kind", 3, 1, false, "", "treadwheel/lex", 16⟩)
    (by kernel_rfl) (by kernel_rfl) rfl rfl (by kernel_rfl) (by kernel_rfl) rfl rfl (by kernel_rfl) (by kernel_rfl) (by kernel_rfl) (by kernel_rfl) hd
  intro j v hv
  obtain ⟨x, hx, hj⟩ := sg_at j v hv
  have hx2 : sgD[j / 2]? = some (x.1.data.toList, x.2) := by simp [sgD, hx]
  obtain ⟨⟨s, hs, c0⟩, c1⟩ := hc _ _ hx2
  obtain rfl : s = x.1 := ByteArray.ext (Array.ext' hs)
  rcases hj with ⟨hm, rfl⟩ | ⟨hm, rfl⟩
  · have : j / 2 * 2 = j := by omega
    rw [World.var?_cell hg hvar]
    rw [this] at c0
    simpa using c0
  · have : j / 2 * 2 + 1 = j := by omega
    rw [World.var?_cell hg hvar]
    rw [this] at c1
    simpa using c1
end Go.Proofs.YtbnmmbjajheedaaGreatDoor
