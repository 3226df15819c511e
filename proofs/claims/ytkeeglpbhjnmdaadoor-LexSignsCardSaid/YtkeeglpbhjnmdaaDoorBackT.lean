/- What the parse answers, of any text that is no longer than the statement asks. -/
import Derived.Test.YtkeeglpbhjnmdaaDoorBackS
namespace Go.Proofs.YtkeeglpbhjnmdaaDoor
open Go.RowKit
open Go.Lib (NumEnd parseIntB itoa)

/-- The two errors' variables hold something that can be read. -/
def EE (w : World) : Prop := (∃ ev, w.cell? ⟨4, 0, none⟩ = some ev ∧ (ev = .nilIface ∨ ∃ te pe, ev = .iface te pe)) ∧ ∃ ev, w.cell? ⟨5, 0, none⟩ = some ev ∧ (ev = .nilIface ∨ ∃ te pe, ev = .iface te pe)
theorem EE.below {w w' : World} (h : EE w) (hb : Below w.heap.size w w') : EE w' := by
  obtain ⟨⟨e1, h1, h2⟩, e3, h3, h4⟩ := h
  exact ⟨⟨e1, cell_later hb h1, h2⟩, e3, cell_later hb h3, h4⟩

theorem puint_good (t : ByteArray) (hl : t.size = 16) (hall : ∀ c ∈ t.data.toList, isHex c = true) (w : World) :
    Calls Tryd.prog 56 #[.string t, .int .i64 16, .int .i64 64] w fun e w' => e = .returned (.tuple #[.int .u64 (hexN 0 t.data.toList : Nat), .nilIface]) ∧ Below w.heap.size w w' := by
  have h := uint16_good t (by omega) (by omega) hall w
  generalize hexN 0 t.data.toList = n at h ⊢
  go_enter Tryd.func56, Tryd.ntmps56
  go_wp2_with fail
  refine h.mono ?_
  rintro e w' ⟨rfl, hw⟩
  have hb : Below w.heap.size w w' := hw ▸ bytes_below w t
  clear hw h
  go_wp2_with fail
  go_ret2
  exact ⟨rfl, hb⟩

theorem puint_some (t : ByteArray) (hmax : t.size ≤ 100000) (w : World) (hE : EE w) :
    Calls Tryd.prog 56 #[.string t, .int .i64 16, .int .i64 64] w fun e w' => (∃ x v, e = .returned (.tuple #[.int .u64 x, v]) ∧ (v = .nilIface ∨ ∃ N, v = .iface 100 (.pointer (some ⟨N, 0, none⟩)))) ∧ Below w.heap.size w w' := by
  have H : Calls Tryd.prog 64 #[.string t, .int .i64 16, .int .i64 64] w fun e w' => (∃ x v, e = .returned (.tuple #[.int .u64 x, v]) ∧ (v = .nilIface ∨ v = .iface 97 (.int .i64 1) ∨ v = .iface 97 (.int .i64 2))) ∧ Below w.heap.size w w' := by
    by_cases h0 : t.size = 0
    · have e : t = ⟨#[]⟩ := by
        rcases t with ⟨⟨l⟩⟩
        have : l = [] := List.length_eq_zero_iff.1 h0
        rw [this]
      rw [e]
      refine (Tryd.internal_strconv_ParseUint_empty 16 64 w).mono fun e w' ⟨h1, h2⟩ => ⟨⟨_, _, h1, by simp⟩, h2 ▸ Below.refl _ _⟩
    · exact uint16_some t h0 hmax w
  go_enter Tryd.func56, Tryd.ntmps56
  go_wp2_with fail
  refine H.mono ?_
  rintro e w' ⟨⟨x, v, rfl, hv⟩, hb⟩
  have hE' := hE.below hb
  obtain ⟨⟨e2, c2, k2⟩, e3, c3, k3⟩ := hE'
  rcases hv with rfl | rfl | rfl
  · go_wp2_with fail
    go_ret2
    exact ⟨⟨_, _, rfl, Or.inl rfl⟩, hb⟩
  · go_wp2_with fail
    refine (Tryd.strconv_toError_range _ t 16 64 e3 w' (by omega) c3 k3).mono ?_
    rintro e w2 ⟨N, rfl, _, _, hb2⟩
    go_wp2_with fail
    go_ret2
    exact ⟨⟨_, _, rfl, Or.inr ⟨N, rfl⟩⟩, stepB hb hb2⟩
  · go_wp2_with fail
    refine (Tryd.strconv_toError_syntax _ t 16 64 e2 w' (by omega) c2 k2).mono ?_
    rintro e w2 ⟨N, rfl, _, _, hb2⟩
    go_wp2_with fail
    go_ret2
    exact ⟨⟨_, _, rfl, Or.inr ⟨N, rfl⟩⟩, stepB hb hb2⟩

theorem intForm_any (s : ByteArray) (w : World) :
    Calls Tryd.prog 58 #[.string s] w fun e w' => e = .returned (.bool (intF s.data.toList)) ∧ Below w.heap.size w w' := by
  by_cases hs : s = ⟨#[48]⟩
  · subst hs
    exact (intForm_zero w).mono fun e w' ⟨h1, h2⟩ => ⟨h1, h2 ▸ Below.refl _ _⟩
  · refine (intForm_other s _ hs rfl w).mono fun e w' ⟨h1, h2⟩ => ⟨?_, h2⟩
    rw [h1]
    have : (s.data.toList == [48]) = false := by
      refine beq_eq_false_iff_ne.2 fun e => hs ?_
      rcases s with ⟨⟨l⟩⟩
      have e' : l = [48] := e
      rw [e']
    unfold intF
    rw [this]
    rfl

end Go.Proofs.YtkeeglpbhjnmdaaDoor
