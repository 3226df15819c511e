/- Round; a new cell of a class; the document's example. -/
import Derived.Test.YtbjlpmjalidfkaaHpJ
namespace Go.Proofs.Ytbjlpmjalidfkaa
open Go.RowKit

theorem Cls.unique {z : Nat → Int} {k : Nat} {size : Int} {i j : Nat} (h : Cls z k size i) (g : Cls z k size j) : i = j := by
  rcases Nat.lt_trichotomy i j with e | e | e
  · have := g.low i e
    have := h.fits (by have := g.le; omega)
    omega
  · exact e
  · have := h.low j e
    have := g.fits (by have := h.le; omega)
    omega

set_option maxHeartbeats 1000000 in
set_option maxRecDepth 100000 in
theorem round_any (x : HSpot) (T : Nat → Nat) (D : Nat → Int) (R : Nat → Rows) (top par : Int) (L : List (Int × Int)) (w : World) (h : HLies x T D R top par L w) (size : Int) (hs : 0 ≤ size ∧ size ≤ 100000) (i : Nat) (hC : Cls x.sz x.k size i) (hz : i < x.k → 1 ≤ x.sz i ∧ x.sz i ≤ 24) :
    Calls Try.prog 18 #[.pointer (some ⟨x.h, 0, none⟩), .int .i64 size] w fun e w' => e = .returned (.int .i64 (if i < x.k then x.sz i + 3 else size + 3)) ∧ Below w.heap.size w w' := by
  have H1 := Lib.hid (class_for x T D R top par L w h size i hC)
  have e1 : IntKind.i64.wrap (size + 3) = size + 3 := by rw [IntKind.wrap_i64]; omega
  clear h
  by_cases hi : i < x.k
  · have := hz hi
    have e2 : IntKind.i64.wrap (x.sz i + 3) = x.sz i + 3 := by rw [IntKind.wrap_i64]; omega
    rw [if_pos hi]
    go_enter Try.func18, Try.ntmps18
    go_wp2_with fail
    refine H1.out.mono ?_
    rintro e w2 ⟨rfl, hb⟩
    rw [if_pos hi]
    have HB := Lib.hid (hb.alloc (by have := hb.size; omega) (.cells #[.int .i64 (x.sz i), .pointer (some ⟨(x.S i).r, 0, none⟩)] 101))
    clear hb
    go_wp2_with fail
    go_ret
    exact ⟨rfl, HB.out⟩
  · rw [if_neg hi]
    go_enter Try.func18, Try.ntmps18
    go_wp2_with fail
    refine H1.out.mono ?_
    rintro e w2 ⟨rfl, hb⟩
    rw [if_neg hi]
    have HB := Lib.hid (hb.alloc (by have := hb.size; omega) (.cells #[.int .i64 0, .pointer none] 101))
    clear hb
    go_wp2_with fail
    go_ret
    exact ⟨rfl, HB.out⟩

theorem HLies.good {x : HSpot} {T : Nat → Nat} {D : Nat → Int} {R : Nat → Rows} {top par : Int} {L : List (Int × Int)} {w : World} (h : HLies x T D R top par L w) : Ex.Good x.lim (x.lim + (x.n - x.lim : Int)) L := by
  obtain ⟨cb, cap, g, -, -, -, hR⟩ := h.rest
  exact hR.good
theorem sb_pw {k s a m : Int} (h : Ce.pe k s a m = 0) : Ce.sb (Ce.pw k s a m) = s := by
  have hf := (Ce.pe_fit k s a m).1 h
  exact (Ce.parts_of hf (Ce.pw_ok hf)).2.1

/-- What a new heap's cells are: none. -/
theorem inv_new {x : HSpot} {L : List (Int × Int)} (h1 : 1 ≤ x.lim) (h2 : x.lim ≤ x.n) (h3 : x.n ≤ 65536) (hs : ∀ i, i < x.k → 1 ≤ x.sz i ∧ x.sz i ≤ 24) : HInv x (fun _ => 0) (fun _ => none4) 1 L := by
  have e : ∀ a, a ∉ none4.all := fun a h => by simp [none4, Rows.all] at h
  exact ⟨Int.le_refl _, by omega, h2, h3, hs, fun _ _ a ha => absurd ha (e a), fun _ _ a ha => absurd ha (e a), fun a ha => absurd ha (e a), fun _ _ _ _ a ha => absurd ha (e a), fun _ _ => by simp [none4, Rows.all]⟩

/-- A new cell of a class. -/
theorem AllocsE.fresh {pe pw : Int} {x : HSpot} {T : Nat → Nat} {D : Nat → Int} {R : Nat → Rows} {top par : Int} {L : List (Int × Int)} {size : Int} {w w' : World} {e : Ending} (h : AllocsE pe pw x T D R top par L size w e w') (hp : pe = 0) (i : Nat) (hC : Cls x.sz x.k size i) (hi : i < x.k) (hw : (R i).white = []) (hr : top + x.sz i + 3 ≤ x.lim) :
    ∃ (T' : Nat → Nat) (D' : Nat → Int), e = .returned (.tuple #[.int .i64 top, .int .i64 0]) ∧ HLies x T' D' (put1 R i ((R i).grow top).alloc) (top + x.sz i + 3) par L w' ∧ HTurn T T' w w' ∧ AllocP x R top L size top (put1 R i ((R i).grow top).alloc) (top + x.sz i + 3) L ∧ Wrote x (put1 R i ((R i).grow top).alloc) D D' top size pw := by
  rcases h with ⟨h1, -⟩ | ⟨-, at', T', D', R', top', M, he, hl, ht, hA, hW⟩ | ⟨-, T', he, hl, ht, hF⟩
  · exact absurd hp h1
  · cases hA with
    | white j hC2 hj l hw2 hR ht2 hM =>
      obtain rfl := hC.unique hC2
      rw [hw] at hw2
      cases hw2
    | fresh j hC2 hj hw2 hr2 ha hR ht2 hM =>
      obtain rfl := hC.unique hC2
      subst ha ht2 hM hR
      exact ⟨T', D', he, hl, ht, .fresh i hC hi hw hr rfl rfl rfl rfl, hW⟩
    | big hC2 => exact absurd (hC.unique hC2) (by omega)
  · rcases hF with ⟨j, hC2, _, _, h5⟩ | ⟨hC2, _⟩
    · obtain rfl := hC.unique hC2
      omega
    · exact absurd (hC.unique hC2) (by omega)

end Go.Proofs.Ytbjlpmjalidfkaa
