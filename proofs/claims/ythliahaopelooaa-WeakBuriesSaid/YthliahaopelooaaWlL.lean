/- WeakLate: its walk. -/
import Derived.Test.YthliahaopelooaaMg11
namespace Go.Proofs.Ythliahaopelooaa
open Go.RowKit

/-- The numbers from N on, the last first. -/
def up (N : Nat) : Nat → List Nat
  | 0 => []
  | n + 1 => (N + n) :: up N n
theorem up_length (N n : Nat) : (up N n).length = n := by
  induction n with
  | zero => rfl
  | succ n ih => simp [up, ih]
theorem up_get {N n k : Nat} (h : k < n) : (up N n)[k]? = some (N + n - 1 - k) := by
  induction n generalizing k with
  | zero => omega
  | succ n ih =>
    cases k with
    | zero => simp [up]
    | succ k =>
      simp only [up, List.getElem?_cons_succ]
      rw [ih (by omega)]
      congr 1
      omega
/-- What the walk looks at next. -/
def Nx (m : LM) (O k : Nat) : Prop := (k < O → m.nx = pl m (O - 1 - k)) ∧ (k = O → m.nx = 0)
theorem Nx.older {m m' : LM} {O k : Nat} (h : Nx m O k) (ho : Older m m') (hn : O ≤ m.weaks.length) : Nx m' O k := by
  refine ⟨fun hk => ?_, fun hk => ho.nx.trans (h.2 hk)⟩
  rw [ho.nx, h.1 hk, ho.pl _ (by omega)]
theorem Nx.next {m m' : LM} {O k : Nat} (hw : m'.weaks = m.weaks) (e : m'.nx = ((dn (O - 1 - k)).map (pl m)).headD 0) : Nx m' O (k + 1) := by
  have ep : pl m' = pl m := by unfold pl; rw [hw]
  refine ⟨fun h => ?_, fun h => ?_⟩
  · rw [e, ep]
    obtain ⟨j, hj⟩ : ∃ j, O - 1 - k = j + 1 := ⟨O - 2 - k, by omega⟩
    rw [hj, show O - 1 - (k + 1) = j by omega]
    rfl
  · rw [e, show O - 1 - k = 0 by omega]
    rfl
theorem Nx.start (m : LM) (O : Nat) : Nx { m with nx := ((dn O).map (pl m)).headD 0 } O 0 := by
  refine ⟨fun h => ?_, fun h => ?_⟩
  · obtain ⟨j, hj⟩ : ∃ j, O = j + 1 := ⟨O - 1, by omega⟩
    subst hj
    rfl
  · subst h
    rfl

/-- Where the walk stands: k were looked at, l came late. -/
structure Lt (Kx : Nat → Prop) (W0 : World) (S : LSp) (O k l : Nat) (W : World) : Prop where
  at' : ∃ m F mk, LS Kx S m F (up O l ++ dn (O - k)) ((dn O).take k) mk W ∧ m.weaks.length = O + l ∧ Nx m O k ∧ ∀ q, q < O → mk q = false
  kp : Kp Kx W0 W
section
variable {Kx : Nat → Prop} {W0 W : World} {S : LSp} {O k l : Nat}
theorem Lt.c1 (h : Lt Kx W0 S O k l W) : W.cell? ⟨S.wb, 1, none⟩ = some (.pointer (some ⟨S.tb, 0, none⟩)) := by
  obtain ⟨m, F, mk, h1, -⟩ := h.at'
  obtain ⟨u, hu⟩ := h1.lm
  exact hu.c1
theorem lt_add (h : Lt Kx W0 S O k l W) (hO : O + l < 100) :
    Calls Try.prog 10 #[.pointer (some ⟨S.wb, 0, none⟩)] W fun e w' => e = .returned (.bool true) ∧ Lt Kx W0 S O k (l + 1) w' := by
  obtain ⟨m, F, mk, h1, h2, h3, h4⟩ := h.at'
  refine (ls_add h1 (by omega)).mono ?_
  rintro e w' ⟨rfl, m', F', hl, hk, ho, -⟩
  rw [h2] at hl
  refine ⟨rfl, ⟨m', F', _, hl, by rw [ho.n]; omega, h3.older ho (by omega), fun q hq => ?_⟩, h.kp.trans hk⟩
  rw [h4 q hq, Bool.false_or]
  exact decide_eq_false (by omega)
theorem lt_step (h : Lt Kx W0 S O k l W) (hk : k < O) (hO : O + l < 100) :
    Calls Try.prog 15 #[.pointer (some ⟨S.tb, 0, none⟩)] W fun e w' => e = .returned (.tuple #[.int .i64 (O - 1 - k : Nat), .bool true, .bool true]) ∧ Lt Kx W0 S O (k + 1) l w' := by
  obtain ⟨m, F, mk, h1, h2, h3, h4⟩ := h.at'
  rw [dn_step hk] at h1
  have hf := h4 (O - 1 - k) (by omega)
  have hs := ls_step h1 (h3.1 hk) (by omega)
  rw [hf] at hs
  simp only [Bool.false_eq_true, if_false, Bool.not_false] at hs
  refine hs.mono ?_
  rintro e w' ⟨rfl, m', hl, hk', hw, -, hx, -⟩
  refine ⟨rfl, ⟨m', F, mk, ?_, by rw [hw]; exact h2, Nx.next hw hx, h4⟩, h.kp.trans hk'⟩
  rw [dn_take hk, show O - (k + 1) = O - 1 - k by omega]
  exact hl
theorem lt_step0 (h : Lt Kx W0 S O O l W) :
    Calls Try.prog 15 #[.pointer (some ⟨S.tb, 0, none⟩)] W fun e w' => e = .returned (.tuple #[.int .i64 0, .bool false, .bool false]) ∧ Lt Kx W0 S O O l w' := by
  obtain ⟨m, F, mk, h1, h2, h3, h4⟩ := h.at'
  refine (ls_step0 h1 (h3.2 rfl)).mono ?_
  rintro e w' ⟨rfl, hl, hk⟩
  exact ⟨rfl, ⟨m, F, mk, hl, h2, h3, h4⟩, h.kp.trans hk⟩
/-- The row behind the walk was asked for. -/
structure Lq (W0 : World) (S : LSp) (O l : Nat) (P : Nat → Int) (v : Value) (W : World) : Prop where
  at' : ∃ m F mk, LS (fun b => b < W0.heap.size ∨ v.ownBlock = some b) S m F (up O l) (dn O) mk W ∧ m.weaks.length = O + l ∧ pl m = P
  row : Rw 0 W v ((up O l).map P)
  kp : Kp (fun b => b < W0.heap.size) W0 W
theorem Lq.c1 {P : Nat → Int} {v : Value} (h : Lq W0 S O l P v W) : W.cell? ⟨S.wb, 1, none⟩ = some (.pointer (some ⟨S.tb, 0, none⟩)) := by
  obtain ⟨m, F, mk, h1, -⟩ := h.at'
  obtain ⟨u, hu⟩ := h1.lm
  exact hu.c1
theorem lt_row (h : Lt (fun b => b < W0.heap.size) W0 S O O l W) (hO : O + l < 100) :
    Calls Try.prog 26 #[.pointer (some ⟨S.tb, 0, none⟩)] W fun e w' => ∃ P a8 cap8, e = .returned (.slice a8 l cap8) ∧ Lq W0 S O l P (.slice a8 l cap8) w' := by
  obtain ⟨m, F, mk, h1, h2, h3, h4⟩ := h.at'
  rw [Nat.sub_self, show (dn O).take O = dn O from List.take_of_length_le (by rw [dn_length]; exact Nat.le_refl _)] at h1
  simp only [dn, List.append_nil] at h1
  refine (ls_row h1 (by omega)).mono ?_
  rintro e w' ⟨v, rfl, hv, hl, hk⟩
  obtain ⟨a8, cap8, rfl, -⟩ := rw_at hv
  rw [List.length_map, up_length] at hv hl ⊢
  exact ⟨pl m, a8, cap8, rfl, ⟨m, F, mk, hl, h2, rfl⟩, hv, h.kp.trans hk⟩
theorem lt_queue {P : Nat → Int} {v : Value} (h : Lq W0 S O l P v W) (hO : O + l < 100) :
    Calls Try.prog 22 #[.pointer (some ⟨S.tb, 0, none⟩)] W fun e w' => ∃ a9 cap9, e = .returned (.slice a9 O cap9) ∧ Lq W0 S O l P v w' := by
  obtain ⟨m, F, mk, h1, h2, h3⟩ := h.at'
  refine (ls_queue h1 (by omega)).mono ?_
  rintro e w' ⟨v9, rfl, hv, hl, hk⟩
  obtain ⟨a9, cap9, rfl, -⟩ := rw_at hv
  rw [List.length_map, dn_length]
  exact ⟨a9, cap9, rfl, ⟨m, F, mk, hl.less fun _ h => Or.inl h, h2, h3⟩, h.row.kp hk fun g hg => Or.inr hg, h.kp.trans (hk.mono fun _ h => Or.inl h)⟩
theorem Lq.cells {P : Nat → Int} {a8 : Option Addr} {cap8 : Nat} (h : Lq W0 S O l P (.slice a8 l cap8) W) {i q : Nat} (hi : i < l) (hq : O + l - 1 - i = q) :
    ∃ g8 g4 cap4, a8 = some ⟨g8, 0, none⟩ ∧ W.cell? ⟨g8, i, none⟩ = some (.int .i64 (P q)) ∧ W.cell? ⟨S.wb, 4, none⟩ = some (.slice (some ⟨g4, 0, none⟩) (O + l) cap4) ∧ W.cell? ⟨g4, q, none⟩ = some (.int .i64 (P q)) := by
  obtain ⟨m, F, mk, h1, h2, h3⟩ := h.at'
  obtain ⟨u, hu⟩ := h1.lm
  obtain ⟨a4, cap4, c4, h4⟩ := hu.weaksAt
  rw [h2, h3] at h4
  rw [h2] at c4
  obtain ⟨g4, rfl, d4⟩ := h4 q (by omega)
  obtain ⟨g8, rfl, d8⟩ := rw_cell h.row (i := i) (by rw [List.length_map, up_length]; exact hi)
  rw [map_getD (up_get hi), hq] at d8
  exact ⟨g8, g4, cap4, rfl, d8, c4, d4⟩
theorem Lq.drawn {P : Nat → Int} {v : Value} {W' : World} (h : Lq W0 S O l P v W) (hb : Below W.heap.size W W') : Lq W0 S O l P v W' := by
  obtain ⟨m, F, mk, h1, h2, h3⟩ := h.at'
  obtain ⟨h5, h6⟩ := h1.later hb
  exact ⟨⟨m, F, mk, h5, h2, h3⟩, h.row.kp h6 fun g hg => Or.inr hg, h.kp.trans (h6.mono fun _ h => Or.inl h)⟩
end
set_option maxHeartbeats 16000000 in
set_option maxRecDepth 100000 in
theorem late_walk (n0 n1 n2 : Int) (w : World) (h00 : 0 ≤ n0) (h01 : n0 ≤ 255) (h10 : 0 ≤ n1) (h11 : n1 ≤ 255) (h20 : 0 ≤ n2) (h21 : n2 ≤ 255) :
    Calls Try.prog 7 #[.int .u8 n0, .int .u8 n1, .int .u8 n2] w fun e w' => e = .returned (.bool true) ∧ Below w.heap.size w w' := by
  obtain ⟨O, hO, hO12⟩ : ∃ N : Nat, n0.tmod 12 = N ∧ N < 12 := ⟨n0.toNat % 12, by rw [Int.tmod_eq_emod_of_nonneg h00]; omega, Nat.mod_lt _ (by decide)⟩
  obtain ⟨A, hA, hA12⟩ : ∃ N : Nat, n1.tmod 12 = N ∧ N < 12 := ⟨n1.toNat % 12, by rw [Int.tmod_eq_emod_of_nonneg h10]; omega, Nat.mod_lt _ (by decide)⟩
  obtain ⟨M, hM, hM5⟩ : ∃ N : Nat, n2.tmod 5 = N ∧ N < 5 := ⟨n2.toNat % 5, by rw [Int.tmod_eq_emod_of_nonneg h20]; omega, Nat.mod_lt _ (by decide)⟩
  go_enter Try.func7, Try.ntmps7
  go_wp2_with fail
  refine (wawake_any w).mono ?_
  rintro e w0 ⟨rfl, hb0⟩
  have HB0 := Lib.hid hb0
  clear hb0
  go_wp2_with fail
  refine (ls_made w0).mono ?_
  rintro e w1 ⟨S, rfl, hl1, hb1⟩
  have H1 := Lib.hid (And.intro hl1 hb1)
  clear hl1 hb1
  go_wp2_with fail
  go_loopw [10] (fun s10 wr => ∃ (i : Nat) (m : LM) (F : List Int) (mk : Nat → Bool), i ≤ O ∧ s10 = .int .i64 i ∧ LS (fun b => b < w0.heap.size) S m F (dn i) [] mk wr ∧ Kp (fun b => b < w0.heap.size) w0 wr ∧ m.weaks.length = i ∧ m.cy = false) (fun s10 _ => O - (intOf s10).toNat)
  case atStart => exact ⟨0, m0, [], _, Nat.zero_le _, rfl, H1.out.1, Kp.of_below H1.out.2 fun _ h => h, rfl, rfl⟩
  case round =>
    clear H1
    obtain ⟨i, m, F, mk, hi, rfl, hl, hk, hn, hcy⟩ := hrel
    have HL := Lib.hid (And.intro hl (And.intro hk (And.intro hn hcy)))
    clear hl hk hn hcy
    by_cases hlt : i < O
    · have hlt' : (i : Int) < (O : Int) := by omega
      have HA := Lib.hid (ls_add HL.out.1 (by have := HL.out.2.2.1; omega))
      go_wp2_with fail
      refine HA.out.mono ?_
      rintro e w2 ⟨rfl, m', F', hl', hk', ho', -⟩
      rw [HL.out.2.2.1] at hl'
      have HE := Lib.hid (And.intro hl' (And.intro (HL.out.2.1.trans hk') (And.intro (ho'.n.trans (by rw [HL.out.2.2.1])) (ho'.cy.trans HL.out.2.2.2))))
      clear hl' hk' ho' HA HL
      go_wp2_with fail
      go_roundw
      case rel => exact ⟨i + 1, m', F', _, by omega, by go_num, HE.out.1, HE.out.2.1, HE.out.2.2.1, HE.out.2.2.2⟩
      case measure => simp [intOf]; omega
    · obtain rfl : i = O := by omega
      obtain ⟨u2, hu2⟩ := HL.out.1.lm
      have c0 := hu2.c0
      have HB := Lib.hid (ls_begin HL.out.1 HL.out.2.2.2)
      clear hu2
      go_wp2_with fail
      refine HB.out.mono ?_
      rintro e w3 ⟨rfl, hl3, hk3⟩
      have HT := Lib.hid (ls_tbegin hl3)
      have H3 := Lib.hid (And.intro (HL.out.2.1.trans hk3) HL.out.2.2.1)
      obtain ⟨u3, hu3⟩ := hl3.lm
      have c1 := hu3.c1
      clear hl3 hk3 HB HL c0 hu3
      go_wp2_with fail
      refine HT.out.mono ?_
      rintro e w4 ⟨rfl, hl4, hk4⟩
      have H4 : Hid (Lt (fun b => b < w0.heap.size) w0 S i 0 0 w4) := Lib.hid ⟨⟨_, _, _, hl4, H3.out.2, Nx.start _ _, fun _ _ => rfl⟩, H3.out.1.trans hk4⟩
      clear hl4 hk4 HT H3 c1
      go_wp2_with fail
      go_loopw [11, 12] (fun s11 s12 wr => ∃ (k l : Nat), k ≤ i ∧ l ≤ M ∧ s11 = .int .i64 l ∧ s12 = .int .i64 k ∧ Lt (fun b => b < w0.heap.size) w0 S i k l wr) (fun _ s12 _ => i - (intOf s12).toNat)
      case atStart => exact ⟨0, 0, Nat.zero_le _, Nat.zero_le _, rfl, rfl, H4.out⟩
      case round =>
        clear H4
        obtain ⟨k, l, hk, hlM, rfl, rfl, ht⟩ := hrel
        have d1 := ht.c1
        have HL := Lib.hid ht
        clear ht
        by_cases hlt : k < i
        · have hlt' : (k : Int) < (i : Int) := by omega
          by_cases hkA : k = A
          · subst hkA
            go_wp2_with fail
            go_loopw [11] (fun s11 wr => ∃ (l' : Nat), l' ≤ M ∧ s11 = .int .i64 l' ∧ Lt (fun b => b < w0.heap.size) w0 S i k l' wr) (fun s11 _ => M - (intOf s11).toNat)
            case atStart => exact ⟨l, hlM, rfl, HL.out⟩
            case round =>
              clear HL hlM d1
              obtain ⟨l', hlM, rfl, ht⟩ := hrel
              have d1 := ht.c1
              have HL := Lib.hid ht
              clear ht
              by_cases hll : l' < M
              · have hll' : (l' : Int) < (M : Int) := by omega
                have HA := Lib.hid (lt_add HL.out (by omega))
                clear d1
                go_wp2_with fail
                refine HA.out.mono ?_
                rintro e w5 ⟨rfl, h5⟩
                have H5 := Lib.hid h5
                clear h5 HA HL
                go_wp2_with fail
                go_roundw
                case rel => exact ⟨l' + 1, by omega, by go_num, H5.out⟩
                case measure => simp [intOf]; omega
              · have hll' : ¬ (l' : Int) < (M : Int) := by omega
                generalize l' = l at *
                have hew : IntKind.i64.wrap ((i : Int) - 1) = (i : Int) - 1 ∧ IntKind.i64.wrap ((i : Int) - 1 - (k : Int)) = ((i - 1 - k : Nat) : Int) := ⟨by rw [IntKind.wrap_i64]; omega, by rw [IntKind.wrap_i64]; omega⟩
                have HEW := Lib.hid hew
                have HS := Lib.hid (lt_step HL.out hlt (by omega))
                generalize i - 1 - k = q at *
                clear hew
                go_wp2_with fail
                refine HS.out.mono ?_
                rintro e w9 ⟨rfl, h9⟩
                have H9 := Lib.hid h9
                clear h9 HS HL d1
                obtain ⟨ew1, ew2⟩ := HEW.out
                go_wp2_with fail
                go_roundw
                case rel => exact ⟨k + 1, l, by omega, hlM, rfl, by go_num, H9.out⟩
                case measure => simp [intOf]; omega
          · have hkA' : ¬ (k : Int) = (A : Int) := by omega
            have hew : IntKind.i64.wrap ((i : Int) - 1) = (i : Int) - 1 ∧ IntKind.i64.wrap ((i : Int) - 1 - (k : Int)) = ((i - 1 - k : Nat) : Int) := ⟨by rw [IntKind.wrap_i64]; omega, by rw [IntKind.wrap_i64]; omega⟩
            have HEW := Lib.hid hew
            have HS := Lib.hid (lt_step HL.out hlt (by omega))
            generalize i - 1 - k = q at *
            clear hew
            go_wp2_with fail
            refine HS.out.mono ?_
            rintro e w9 ⟨rfl, h9⟩
            have H9 := Lib.hid h9
            clear h9 HS HL d1
            obtain ⟨ew1, ew2⟩ := HEW.out
            go_wp2_with fail
            go_roundw
            case rel => exact ⟨k + 1, l, by omega, hlM, rfl, by go_num, H9.out⟩
            case measure => simp [intOf]; omega
        · obtain rfl : k = i := by omega
          have HS := Lib.hid (lt_step0 HL.out)
          go_wp2_with fail
          refine HS.out.mono ?_
          rintro e w5 ⟨rfl, h5⟩
          have HR := Lib.hid (lt_row h5 (by omega))
          replace d1 := h5.c1
          clear h5 HS HL
          go_wp2_with fail
          refine HR.out.mono ?_
          rintro e w6 ⟨P, a8, cap8, rfl, h6⟩
          have HQ := Lib.hid (lt_queue h6 (by omega))
          replace d1 := h6.c1
          clear h6 HR
          go_wp2_with fail
          refine HQ.out.mono ?_
          rintro e w7 ⟨a9, cap9, rfl, h7⟩
          have H7 := Lib.hid h7
          clear h7 HQ d1
          go_wp2_with fail
          go_loopw [20] (fun s20 wr => ∃ (t : Nat), t ≤ l ∧ s20 = .int .i64 t ∧ Lq w0 S k l P (.slice a8 l cap8) wr) (fun s20 _ => l - (intOf s20).toNat)
          case atStart => exact ⟨0, Nat.zero_le _, rfl, H7.out⟩
          case round =>
            clear H7
            obtain ⟨t, htl, rfl, ht⟩ := hrel
            have H8 := Lib.hid ht
            by_cases hll : t < l
            · have hll' : (t : Int) < (l : Int) := by omega
              obtain ⟨q, hq⟩ : ∃ q, k + l - 1 - t = q := ⟨_, rfl⟩
              obtain ⟨g8, g4, cap4, rfl, c8, c4, d4⟩ := ht.cells hll hq
              obtain ⟨n, hn⟩ : ∃ n, k + l = n := ⟨_, rfl⟩
              rw [hn] at c4
              have hew : IntKind.i64.wrap ((n : Int) - 1) = (n : Int) - 1 ∧ IntKind.i64.wrap ((n : Int) - 1 - (t : Int)) = (q : Int) := ⟨by rw [IntKind.wrap_i64]; omega, by rw [IntKind.wrap_i64]; omega⟩
              have hqn : (q : Int) < (n : Int) := by omega
              obtain ⟨ew1, ew2⟩ := hew
              have HN := Lib.hid (And.intro hq hn)
              generalize P q = pq at *
              clear ht hq hn
              go_upto_region 36 with fail
              have k0 := cell_regrown c8
              have k1 := cell_regrown c4
              have k2 := cell_regrown d4
              refine wp_region_quiet_below (by kernel_rfl) (by kernel_rfl) ?_
              repeat (first | go_big_quiet_skip | (quiet_step (fail)))
              refine wpQuiet_nil ?_
              intro _ hw'
              obtain ⟨⟨dq, osq⟩, hw''⟩ := hw'
              subst hw''
              have hbq := below_regrown wr dq osq
              have h9 := H8.out.drawn hbq
              have H9 := Lib.hid h9
              clear hbq h9 k0 k1 k2 H8 c8 c4 d4
              go_wp2_with fail
              go_roundw
              case rel => exact ⟨t + 1, by omega, by go_num, H9.out⟩
              case measure => simp [intOf]; omega
            · obtain rfl : t = l := by omega
              clear ht
              go_wp2_with fail
              go_ret
              exact ⟨rfl, HB0.out.trans (H8.out.kp.below.mono HB0.out.size)⟩
end Go.Proofs.Ythliahaopelooaa
