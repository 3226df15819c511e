/- LexLines: its walk. -/
import Derived.Test.YtinkbpenengecaaDoorLxM
import Derived.Deep.QuietTactic
import Derived.BigQuiet
namespace Go.Proofs.YtinkbpenengecaaDoor
open Go.RowKit Go.Lib

theorem cat_list (a b : ByteArray) : (a ++ b).data.toList = a.data.toList ++ b.data.toList := by simp
theorem rep_snoc (k : Nat) (c : UInt8) : List.replicate k c ++ [c] = List.replicate (k + 1) c := by
  rw [List.replicate_succ']

/-- What Lex told, in one shape. -/
theorem LexSaid.view {R : Res} {w w' : World} {e : Ending} (h : LexSaid R w e w') : ∃ (T : List (Tk × Int)) (a : Option Addr) (c : Nat) (er line : Int), e = .returned (.tuple #[.slice a T.length c, .int .i64 er, .int .i64 line]) ∧ w'.ownsRow w.heap.size 35 5 (.slice a T.length c) T.length (flatT T) ∧ Below w.heap.size w w' ∧ ((R = .good T ∧ er = 0 ∧ line = 0) ∨ (R = .bad er line ∧ T = [])) := by
  obtain ⟨hb, h⟩ := h
  cases R with
  | good T =>
    obtain ⟨a, n, c, he, hown⟩ := h
    obtain rfl := own_n hown
    exact ⟨T, a, c, 0, 0, he, hown, hb, Or.inl ⟨rfl, rfl, rfl⟩⟩
  | bad er line => exact ⟨[], none, 0, er, line, h, World.ownsRow_nil _ _ _ _, hb, Or.inr ⟨rfl, rfl⟩⟩
theorem view_shift {R : Res} {n : Int} {T T2 : List (Tk × Int)} {er er2 line line2 : Int} (h : (R = .good T ∧ er = 0 ∧ line = 0) ∨ (R = .bad er line ∧ T = [])) (h2 : (R.shift n = .good T2 ∧ er2 = 0 ∧ line2 = 0) ∨ (R.shift n = .bad er2 line2 ∧ T2 = [])) :
    er2 = er ∧ T2 = T.map (fun x => (x.1, x.2 + n)) ∧ (er = 0 ∨ line2 = line + n) := by
  rcases h with ⟨rfl, rfl, rfl⟩ | ⟨rfl, rfl⟩
  · rcases h2 with ⟨e, rfl, rfl⟩ | ⟨e, rfl⟩
    · simp only [Res.shift, Res.good.injEq] at e
      exact ⟨rfl, e.symm, Or.inl rfl⟩
    · cases e
  · rcases h2 with ⟨e, rfl, rfl⟩ | ⟨e, rfl⟩
    · cases e
    · simp only [Res.shift, Res.bad.injEq] at e
      obtain ⟨rfl, rfl⟩ := e
      exact ⟨rfl, rfl, Or.inr rfl⟩

set_option maxHeartbeats 16000000 in
set_option maxRecDepth 100000 in
theorem lines_walk (s : ByteArray) (n : Nat) (hn : n ≤ 255) (w : World) (hS : SG w) (hE : EE w) :
    Calls Tryd.prog 8 #[.string s, .int .u8 n] w fun e w' => e = .returned (.bool true) ∧ Below w.heap.size w w' := by
  have HSE := Lib.hid (And.intro hS hE)
  clear hS hE
  go_enter Tryd.func8, Tryd.ntmps8
  go_wp2_with fail
  refine (lawake_any w HSE.out.1 HSE.out.2).mono ?_
  rintro e w1 ⟨rfl, hb⟩
  have H1 := Lib.hid (And.intro hb (And.intro (HSE.out.1.below hb) (HSE.out.2.below hb)))
  clear hb HSE
  by_cases g3 : 3000 < s.size
  · have f3 : decide ((3000 : Int) < (s.size : Int)) = true := decide_eq_true (by omega)
    go_wp2_with fail
    go_ret
    exact ⟨rfl, H1.out.1⟩
  have f3 : decide ((3000 : Int) < (s.size : Int)) = false := decide_eq_false (by omega)
  go_wp2_with fail
  clear f3
  go_loop [5, 6] (fun s5 s6 => ∃ (k : Nat) (B : ByteArray), k ≤ n ∧ s5 = .string B ∧ s6 = .int .i64 k ∧ B.data.toList = List.replicate k 10) (fun _ s6 => n - (RowKit.intOf s6).toNat)
  case atStart => exact ⟨0, ⟨#[]⟩, Nat.zero_le _, rfl, rfl, rfl⟩
  case round =>
    obtain ⟨k, B, hk, rfl, rfl, hB⟩ := hrel
    have hBz : B.size = k := by rw [size_eq, hB, List.length_replicate]
    have HB := Lib.hid hB
    clear hB
    by_cases hlt : k < n
    · have hlt' : (k : Int) < (n : Int) := by omega
      go_wp2_with fail
      exact ⟨⟨k + 1, B ++ ⟨#[10]⟩, by omega, rfl, by go_num, by rw [cat_list, HB.out]; exact rep_snoc k 10⟩, by simp [RowKit.intOf]; omega⟩
    · obtain rfl : k = n := by omega
      obtain ⟨R, hR⟩ : ∃ R, lexL s.data.toList = R := ⟨_, rfl⟩
      have hM : lexL (B ++ s).data.toList = R.shift k := by rw [cat_list, HB.out, lexL_nl, hR]
      have hbd := lexL_bd s.data.toList
      rw [hR, ← size_eq s] at hbd
      have hz2 : (B ++ s).size ≤ 100000 := by rw [size_eq, cat_list, List.length_append, ← size_eq, ← size_eq]; omega
      have HL1 := Lib.hid (lex_any s (by omega) w1 H1.out.2.1 H1.out.2.2)
      have HRM := Lib.hid (And.intro hR (And.intro hM hbd))
      have HZ := Lib.hid hz2
      clear hR hM hbd HB hz2
      go_wp2_with fail
      refine HL1.out.mono ?_
      intro e w2 h2
      obtain ⟨T, a1, c1, er, line, rfl, hown, hb2, hv⟩ := h2.view
      rw [HRM.out.1] at hv
      have HL2 := Lib.hid (lex_any (B ++ s) HZ.out w2 (H1.out.2.1.below hb2) (H1.out.2.2.below hb2))
      have H2 := Lib.hid (And.intro (onB' H1.out.1 hb2) (And.intro hown hv))
      clear h2 hown hb2 hv
      go_wp2_with fail
      refine HL2.out.mono ?_
      intro e w3 h3
      obtain ⟨T2, a2, c2, er2, line2, rfl, hown2, hb3, hv2⟩ := h3.view
      rw [HRM.out.2.1] at hv2
      obtain ⟨rfl, rfl, hln⟩ := view_shift H2.out.2.2 hv2
      have hlen : (T.map fun x => (x.1, x.2 + (k : Int))).length = T.length := List.length_map _
      have hbT : ∀ x, x ∈ T → 0 ≤ x.2 ∧ x.2 ≤ 4000 := by
        intro x hx
        rcases H2.out.2.2 with ⟨e, -, -⟩ | ⟨e, rfl⟩
        · have := HRM.out.2.2
          rw [e] at this
          have := this x hx
          omega
        · cases hx
      have hbl : er2 ≠ 0 → 0 ≤ line ∧ line ≤ 4000 := by
        intro he
        rcases H2.out.2.2 with ⟨-, e, -⟩ | ⟨e, -⟩
        · exact absurd e he
        · have := HRM.out.2.2
          rw [e] at this
          have h' : 0 ≤ line ∧ line ≤ 1 + (s.size : Int) := this
          omega
      have H3 := Lib.hid (And.intro (onB' H2.out.1 hb3) (And.intro (own_below H2.out.2.1 hb3) (And.intro hown2 hbT)))
      rw [hlen]
      clear h3 hown2 hb3 hv2 H2 HRM HL1 HL2 hbT
      have u1 : (er2 != er2) = false := by simp
      have u2 : ((T.length : Int) != (T.length : Int)) = false := by simp
      have hmain : ((er2 != 0) = false) ∨ ((er2 != 0) = true ∧ IntKind.i64.wrap (line + (k : Int)) = line + k ∧ line2 = line + k) := by
        by_cases g : er2 = 0
        · exact Or.inl (by simp [g])
        · refine Or.inr ⟨by simpa using g, ?_, hln.resolve_left g⟩
          have := hbl g
          rw [IntKind.wrap_i64]
          omega
      clear hln hbl hlen
      rcases hmain with u3 | ⟨u3, u4, rfl⟩
      all_goals
        go_upto_region 15 with fail
        clear u1 u2 u3
        go_loopw [13] (fun s13 wr => ∃ j : Nat, j ≤ T.length ∧ s13 = .int .i64 j ∧ Below w3.heap.size w3 wr) (fun s13 _ => T.length - (RowKit.intOf s13).toNat)
        case atStart => exact ⟨0, Nat.zero_le _, rfl, Below.refl _ _⟩
        case round =>
          obtain ⟨j, hj, rfl, hbr⟩ := hrel
          have HBR := Lib.hid hbr
          clear hbr
          by_cases gj : j < T.length
          · have gj' : (j : Int) < (T.length : Int) := by omega
            obtain ⟨g1, ea1, ht1⟩ := own_tok H3.out.2.1 gj
            have gjm : j < (T.map fun x => (x.1, x.2 + (k : Int))).length := by rw [List.length_map]; exact gj
            obtain ⟨g2, ea2, ht2⟩ := own_tok H3.out.2.2.1 gjm
            rw [List.getElem_map] at ht2
            have hbx := H3.out.2.2.2 _ (List.getElem_mem gj)
            subst ea1
            subst ea2
            replace ht1 := ht1.later HBR.out
            replace ht2 := ht2.later HBR.out
            generalize T[j] = tk at *
            obtain ⟨⟨kd, tx, ff, xx⟩, ln⟩ := tk
            simp only at hbx
            obtain ⟨lk, hlk⟩ : ∃ lk : Int, ln + (k : Int) = lk := ⟨_, rfl⟩
            have esub : IntKind.i64.wrap (lk - (k : Int)) = ln := by rw [IntKind.wrap_i64]; omega
            obtain ⟨p0, p1, p2, p3, p4⟩ := ht1
            obtain ⟨q0, q1, q2, q3, q4⟩ := ht2
            simp only [hlk] at p0 p1 p2 p3 p4 q0 q1 q2 q3 q4
            generalize (⟨tx.toArray⟩ : ByteArray) = bt at *
            have he := fun W => tok_neq kd bt ff xx ln W
            have hmx := own_max H3.out.2.1
            unfold maxLen at hmx
            have ej : IntKind.i64.wrap ((j : Int) + 1) = (j : Int) + 1 := by rw [IntKind.wrap_i64]; omega
            have hx := (Below.refl wr.heap.size wr).alloc (Nat.le_refl _) (.cells #[.int .i64 kd, .string bt, .bool ff, .int .u64 xx, .int .i64 ln] 35)
            have x0 : (wr.alloc (.cells #[.int .i64 kd, .string bt, .bool ff, .int .u64 xx, .int .i64 ln] 35)).cell? ⟨wr.heap.size, 0, none⟩ = some (.int .i64 kd) := by simp [go_sem]
            have x1 : (wr.alloc (.cells #[.int .i64 kd, .string bt, .bool ff, .int .u64 xx, .int .i64 ln] 35)).cell? ⟨wr.heap.size, 1, none⟩ = some (.string bt) := by simp [go_sem]
            have x2 : (wr.alloc (.cells #[.int .i64 kd, .string bt, .bool ff, .int .u64 xx, .int .i64 ln] 35)).cell? ⟨wr.heap.size, 2, none⟩ = some (.bool ff) := by simp [go_sem]
            have x3 : (wr.alloc (.cells #[.int .i64 kd, .string bt, .bool ff, .int .u64 xx, .int .i64 ln] 35)).cell? ⟨wr.heap.size, 3, none⟩ = some (.int .u64 xx) := by simp [go_sem]
            have x4 : (wr.alloc (.cells #[.int .i64 kd, .string bt, .bool ff, .int .u64 xx, .int .i64 ln] 35)).cell? ⟨wr.heap.size, 4, none⟩ = some (.int .i64 ln) := by simp [go_sem]
            have y0 := later' hx p0
            have y1 := later' hx p1
            have y2 := later' hx p2
            have y3 := later' hx p3
            have y4 := later' hx p4
            have HX := Lib.hid (onB' HBR.out hx)
            clear hx p0 p1 p2 p3 p4 hlk
            go_upto_region 19 with fail
            generalize (wr.alloc (.cells #[.int .i64 kd, .string bt, .bool ff, .int .u64 xx, .int .i64 ln] 35)) = W4 at *
            have b0 : (0 : Int) ≤ (j : Int) := by omega
            have hd : Below W4.heap.size W4 W4.drew := ⟨rfl, rfl, rfl, Nat.le_refl _, fun _ _ => rfl⟩
            have HXD := Lib.hid (onB' HX.out hd)
            clear hd
            go_region
            all_goals go_wp2_with fail
            all_goals exact ⟨⟨j + 1, by omega, by go_num, HXD.out⟩, by simp [RowKit.intOf]; omega⟩
          · obtain rfl : j = T.length := by omega
            go_wp2_with fail
            go_ret
            exact ⟨rfl, onB' H3.out.1 HBR.out⟩

end Go.Proofs.YtinkbpenengecaaDoor
