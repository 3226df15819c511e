/- StackOnce: the stack beside what has been told. -/
import Derived.Test.YtalfhcmccdnajaaSkT
namespace Go.Proofs.Ytalfhcmccdnajaa
open Go.RowKit Go.Sort

/-- What has been told of place j, if all below m have not. -/
def tval (m j : Nat) : Int := if j < m then 0 else 1
/-- The stack, the frames that were to be scanned, and how often each was told (those from m on, once). -/
structure Once (w : World) (p : Nat) (v : Value) (L : List Fr) (left m : Nat) (fr : List Int) (b0 bt gt : Nat) (a0 : Option Addr) (c0 : Nat) (W : World) : Prop where
  mid : Mid w p 4096 v L left W
  lf : left ≤ fr.length
  org : ∀ j f, j < left → L[j]? = some f → ∃ x, fr[j]? = some x ∧ f.told = (7, (j : Int), [x])
  cb : W.cell? ⟨b0, 0, none⟩ = some (.slice a0 fr.length c0)
  ct : W.cell? ⟨bt, 0, none⟩ = some (.slice (some ⟨gt, 0, none⟩) fr.length fr.length)
  tl : ∀ j, j < fr.length → W.cell? ⟨gt, j, none⟩ = some (.int .i64 (tval m j))
  fz : ∀ j, W.frozen? ⟨gt, j, none⟩ = false
  ob : Off b0 p v
  ot : Off bt p v
  og : Off gt p v
  lg : w.heap.size ≤ gt
  nt : bt ≠ gt
  nb : b0 ≠ gt
  hg : gt < W.heap.size
  aw : ∀ f, f ∈ L → WAt (fun g => g ≠ gt) W f
section
variable {w W W' : World} {p left left' m b0 bt gt c0 : Nat} {v : Value} {L L' : List Fr} {fr : List Int} {a0 : Option Addr}
theorem Once.later (h : Once w p v L left m fr b0 bt gt a0 c0 W) (hb : Below W.heap.size W W') : Once w p v L left m fr b0 bt gt a0 c0 W' :=
  ⟨h.mid.later hb, h.lf, h.org, (World.cell?_of_block (w := W) (a := ⟨b0, 0, none⟩) (hb.block b0 (World.block_lt_of_cell? _ _ h.cb))).trans h.cb, (World.cell?_of_block (w := W) (a := ⟨bt, 0, none⟩) (hb.block bt (World.block_lt_of_cell? _ _ h.ct))).trans h.ct,
    fun j hj => (World.cell?_of_block (w := W) (a := ⟨gt, j, none⟩) (hb.block gt h.hg)).trans (h.tl j hj), fun j => (World.frozen?_of_block (w := W) (a := ⟨gt, j, none⟩) (hb.block gt h.hg)).trans (h.fz j), h.ob, h.ot, h.og, h.lg, h.nt, h.nb, Nat.lt_of_lt_of_le h.hg hb.size, fun f hf => (h.aw f hf).move (fun g hl hk => ⟨hk, hb.block g hl⟩) hb.size⟩
theorem Once.went (h : Once w p v L left m fr b0 bt gt a0 c0 W) (hd : Did p 4096 v W L' left' W') (hle : left' ≤ left) (hpre : ∀ j f, j < left' → L'[j]? = some f → L[j]? = some f) (hsub : ∀ f, f ∈ L' → f ∈ L ∨ WAt (fun g => W.heap.size ≤ g) W' f) : ∃ v', Once w p v' L' left' m fr b0 bt gt a0 c0 W' := by
  obtain ⟨v', hM, hW⟩ := h.mid.did hd
  obtain ⟨ob, hb0⟩ := h.ob.went hW (World.block_lt_of_cell? _ _ h.cb)
  obtain ⟨ot, hbt⟩ := h.ot.went hW (World.block_lt_of_cell? _ _ h.ct)
  obtain ⟨og, hgt⟩ := h.og.went hW h.hg
  refine ⟨v', hM, Nat.le_trans hle h.lf, fun j f hj hf => h.org j f (by omega) (hpre j f hj hf), (World.cell?_of_block (w := W) (a := ⟨b0, 0, none⟩) hb0).trans h.cb, (World.cell?_of_block (w := W) (a := ⟨bt, 0, none⟩) hbt).trans h.ct, fun j hj => (World.cell?_of_block (w := W) (a := ⟨gt, j, none⟩) hgt).trans (h.tl j hj), fun j => (World.frozen?_of_block (w := W) (a := ⟨gt, j, none⟩) hgt).trans (h.fz j), ob, ot, og, h.lg, h.nt, h.nb, Nat.lt_of_lt_of_le h.hg hW.1.size, fun f hf => ?_⟩
  rcases hsub f hf with h' | h'
  · exact ((h.mid.st.ws f h').both (h.aw f h')).move (fun g hl hk => ⟨hk.2, hW.1.block g hl hk.1.1 hk.1.2⟩) hW.1.size
  · exact h'.move (fun g _ hk => ⟨by have := h.hg; omega, rfl⟩) (Nat.le_refl _)
/-- Noted. -/
theorem Once.note {j : Nat} (h : Once w p v L j (j + 1) fr b0 bt gt a0 c0 W) : Once w p v L j j fr b0 bt gt a0 c0 (W.setCell ⟨gt, j, none⟩ (.int .i64 1)) := by
  have hg : W.grownBy (W.setCell ⟨gt, j, none⟩ (.int .i64 1)) (some gt) := ⟨rfl, rfl, rfl, by simp [World.setCell], fun k _ hk => Below.heap_setCell _ _ _ _ (fun e => hk (congrArg some e))⟩
  have hw : ∀ f, f ∈ L → WAt (fun g => some g ≠ some gt) W f := fun f hf => (h.aw f hf).move (fun g _ hk => ⟨fun e => hk (Option.some.inj e), rfl⟩) (Nat.le_refl _)
  refine ⟨h.mid.grown hg (fun g e => by cases e; exact ⟨h.lg, h.og⟩) hw, h.lf, h.org, (World.cell?_setCell_other _ _ _ _ (fun e => h.nb (congrArg Addr.block e).symm)).trans h.cb, (World.cell?_setCell_other _ _ _ _ (fun e => h.nt (congrArg Addr.block e).symm)).trans h.ct, fun i hi => ?_, fun i => (World.frozen?_setCell _ _ _ _).trans (h.fz i), h.ob, h.ot, h.og, h.lg, h.nt, h.nb, by simpa [World.setCell] using h.hg, fun f hf => (h.aw f hf).move (fun g _ hk => ⟨hk, Below.heap_setCell _ _ _ _ hk⟩) (by simp [World.setCell])⟩
  by_cases e : i = j
  · subst e
    rw [World.cell?_setCell_same _ _ _ (h.tl i hi)]
    simp [tval]
  · rw [World.cell?_setCell_other _ _ _ _ (fun e' => e (by have := congrArg Addr.off e'; simpa using this.symm)), h.tl i hi]
    have e2 : tval (j + 1) i = tval j i := by unfold tval; split <;> split <;> omega
    rw [e2]
/-- A frame that is the next one. -/
theorem Once.next {j : Nat} {f : Fr} (h : Once w p v L (j + 1) m fr b0 bt gt a0 c0 W) (hf : L[j]? = some f) : ∃ x, fr[j]? = some x ∧ f.k = 7 ∧ f.n = (j : Int) ∧ f.ws = [x] := by
  obtain ⟨x, h1, h2⟩ := h.org j f (Nat.lt_succ_self _) hf
  simp only [Fr.told, Prod.mk.injEq] at h2
  exact ⟨x, h1, h2⟩
end

/-- The frames pushed so far. -/
structure Pre (w : World) (p : Nat) (v : Value) (L : List Fr) (i : Nat) (fr : List Int) (b0 : Nat) (a0 : Option Addr) (c0 : Nat) (W : World) : Prop where
  mid : Mid w p 4096 v L 0 W
  len : L.length = i
  org : ∀ (j : Nat) (f : Fr), L[j]? = some f → ∃ x : Int, fr[j]? = some x ∧ f.told = (7, (j : Int), [x])
  us : used L = 3 * (i : Int)
  cb : W.cell? ⟨b0, 0, none⟩ = some (.slice a0 fr.length c0)
  ob : Off b0 p v
section
variable {w W W' : World} {p i b0 c0 : Nat} {v : Value} {L L' : List Fr} {fr : List Int} {a0 : Option Addr}
theorem Pre.later (h : Pre w p v L i fr b0 a0 c0 W) (hb : Below W.heap.size W W') : Pre w p v L i fr b0 a0 c0 W' :=
  ⟨h.mid.later hb, h.len, h.org, h.us, (World.cell?_of_block (w := W) (a := ⟨b0, 0, none⟩) (hb.block b0 (World.block_lt_of_cell? _ _ h.cb))).trans h.cb, h.ob⟩
theorem Pre.more {f : Fr} {x : Int} (h : Pre w p v L i fr b0 a0 c0 W) (hd : Did p 4096 v W (L ++ [f]) 0 W') (hx : fr[i]? = some x) (ht : f.told = (7, (i : Int), [x])) : ∃ v', Pre w p v' (L ++ [f]) (i + 1) fr b0 a0 c0 W' := by
  obtain ⟨v', hM, hW⟩ := h.mid.did hd
  obtain ⟨ob, hb0⟩ := h.ob.went hW (World.block_lt_of_cell? _ _ h.cb)
  have hws : f.ws = [x] := by have := congrArg (fun t => t.2.2) ht; exact this
  refine ⟨v', hM, by rw [List.length_append, h.len]; rfl, fun j g hg => ?_, by rw [used_append, h.us, hws]; simp; omega, (World.cell?_of_block (w := W) (a := ⟨b0, 0, none⟩) hb0).trans h.cb, ob⟩
  by_cases hj : j < L.length
  · rw [List.getElem?_append_left hj] at hg
    exact h.org j g hg
  · rw [List.getElem?_append_right (by omega)] at hg
    have hj0 : j - L.length = 0 := by
      rcases Nat.eq_zero_or_pos (j - L.length) with e | e
      · exact e
      · rw [List.getElem?_eq_none (by simp; omega)] at hg; cases hg
    rw [hj0] at hg
    simp only [List.getElem?_cons_zero, Option.some.injEq] at hg
    subst hg
    have : j = i := by have := h.len; omega
    subst this
    exact ⟨x, hx, ht⟩
/-- Begun. -/
theorem Pre.begin (h : Pre w p v L i fr b0 a0 c0 W) (hd : Did p 4096 v W L L.length W') : ∃ v', Mid w p 4096 v' L L.length W' ∧ W'.cell? ⟨b0, 0, none⟩ = some (.slice a0 fr.length c0) ∧ Off b0 p v' := by
  obtain ⟨v', hM, hW⟩ := h.mid.did hd
  obtain ⟨ob, hb0⟩ := h.ob.went hW (World.block_lt_of_cell? _ _ h.cb)
  exact ⟨v', hM, (World.cell?_of_block (w := W) (a := ⟨b0, 0, none⟩) hb0).trans h.cb, ob⟩
end

set_option maxHeartbeats 2000000 in
theorem once_out (fr : List Int) (a0 : Option Addr) (c0 : Nat) (a1 : Option Addr) (len cap : Nat) (X : Nat → Int) (F : Nat → Fr) (w : World) (hfr : WAt (fun _ => True) w ⟨0, 0, fr, a0, c0⟩) (hA : Acts w a1 len X F) (h : ¬ (fr.length ≤ 60 ∧ Few len F)) :
    Calls Try.prog 4 #[.slice a0 fr.length c0, .slice a1 len cap] w fun e w' => e = .returned (.bool true) ∧ Below w.heap.size w w' := by
  have hmx : fr.length ≤ 9223372036854775807 := hfr.1
  have hb0 := (Below.refl w.heap.size w).alloc (Nat.le_refl _) (.cells #[.slice a0 fr.length c0] 35)
  have hx0 := heap_alloc_new w (.cells #[.slice a0 fr.length c0] 35)
  have c00 := cell_of_row _ _ 0 _ _ _ hx0
  have HB0 := Lib.hid hb0
  have hlt : w.heap.size < (w.alloc (.cells #[.slice a0 fr.length c0] 35)).heap.size := by rw [World.size_alloc]; omega
  by_cases h6 : fr.length ≤ 60
  · have hf : ¬ Few len F := fun hf => h ⟨h6, hf⟩
    clear h hb0 hx0 hfr
    go_enter Try.func4, Try.ntmps4
    go_wp2_with fail
    refine (awake_any _).mono ?_
    rintro e w1 ⟨rfl, hB⟩
    have d0 := (World.cell?_of_block (a := ⟨w.heap.size, 0, none⟩) (hB.block w.heap.size hlt)).trans c00
    have HB := Lib.hid (HB0.out.trans (hB.mono HB0.out.size))
    clear hB c00
    have h6' : ¬ (fr.length : Int) > 60 := by omega
    go_wp2_with fail
    refine (few_false a1 len cap X F w _ hA HB.out hf).mono ?_
    rintro e w2 ⟨rfl, rfl⟩
    go_wp2_with fail
    go_ret
    exact ⟨rfl, HB.out⟩
  · clear h hb0 hx0 hfr
    go_enter Try.func4, Try.ntmps4
    go_wp2_with fail
    refine (awake_any _).mono ?_
    rintro e w1 ⟨rfl, hB⟩
    have d0 := (World.cell?_of_block (a := ⟨w.heap.size, 0, none⟩) (hB.block w.heap.size hlt)).trans c00
    have HB := Lib.hid (HB0.out.trans (hB.mono HB0.out.size))
    clear hB c00
    have h6' : (fr.length : Int) > 60 := by omega
    go_wp2_with fail
    go_ret
    exact ⟨rfl, HB.out⟩

end Go.Proofs.Ytalfhcmccdnajaa
