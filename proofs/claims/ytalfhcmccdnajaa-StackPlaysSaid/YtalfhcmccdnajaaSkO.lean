/- List: all frames, each copied. -/
import Derived.Test.YtalfhcmccdnajaaSkC
namespace Go.Proofs.Ytalfhcmccdnajaa
open Go.RowKit Go.Sort

/-- A frame whose words lie in a block of their own, from B on, not the row's. -/
def NewF (B : Nat) (v : Value) (W : World) (f : Fr) : Prop :=
  ∃ g, f.a = some ⟨g, 0, none⟩ ∧ B ≤ g ∧ g < W.heap.size ∧ some g ≠ v.ownBlock ∧ f.ws.length ≤ f.c ∧ f.ws.length ≤ maxLen ∧ (∀ i y, f.ws[i]? = some y → W.cell? ⟨g, i, none⟩ = some (.int .i64 y)) ∧ ∀ i, W.frozen? ⟨g, i, none⟩ = false
theorem NewF.move {B B' : Nat} {v v' : Value} {W W' : World} {f : Fr} (h : NewF B v W f) (hB : B' ≤ B) (hs : W.heap.size ≤ W'.heap.size) (hk : ∀ g, B ≤ g → g < W.heap.size → some g ≠ v.ownBlock → some g ≠ v'.ownBlock ∧ W'.heap[g]? = W.heap[g]?) : NewF B' v' W' f := by
  obtain ⟨g, h1, h2, h3, h4, h5, h6, h7, h8⟩ := h
  obtain ⟨k1, k2⟩ := hk g h2 h3 h4
  exact ⟨g, h1, by omega, by omega, k1, h5, h6, fun i y hy => (World.cell?_of_block (w := W) (a := ⟨g, i, none⟩) k2).trans (h7 i y hy), fun i => (World.frozen?_of_block (w := W) (a := ⟨g, i, none⟩) k2).trans (h8 i)⟩
theorem NewF.wat {B : Nat} {v : Value} {W : World} {f : Fr} (h : NewF B v W f) : WAt (fun g => B ≤ g ∧ some g ≠ v.ownBlock) W f := by
  obtain ⟨g, h1, h2, h3, h4, h5, h6, h7, -⟩ := h
  exact ⟨h6, fun _ => ⟨g, 0, h1, h5, h3, ⟨h2, h4⟩, fun i y hy => by rw [Nat.zero_add]; exact h7 i y hy⟩⟩

/-- A list that is told: all new. -/
def Listed (w : World) (L : List Fr) (v : Value) (W : World) : Prop :=
  ∃ M, FsAt W v M ∧ M.map Fr.told = L.map Fr.told ∧ (∀ f, f ∈ M → NewF w.heap.size v W f) ∧ (∀ g, v.ownBlock = some g → w.heap.size ≤ g) ∧ Below w.heap.size w W

set_option maxHeartbeats 8000000 in
theorem list_any (p left : Nat) (room : Int) (v : Value) (L : List Fr) (w : World) (h : St w p room v L left) :
    Calls Try.prog 19 #[.pointer (some ⟨p, 0, none⟩)] w fun e w' => ∃ u, e = .returned u ∧ Listed w L u w' := by
  have g2 := h.c2
  obtain ⟨ao, cap, hv⟩ := h.fs.sl
  rw [hv] at g2
  have HS := Lib.hid (And.intro h hv)
  have hsm := h.small
  have HM := Lib.hid hsm
  clear h hv
  go_enter Try.func19, Try.ntmps19
  go_wp2_with fail
  go_loopw [3, 11] (fun s3 s11 wr => ∃ (k : Nat) (vv : Value), vv = s3 ∧ k ≤ L.length ∧ s11 = .int .i64 k ∧ Listed w (L.take k) vv wr) (fun _ s11 _ => L.length - (RowKit.intOf s11).toNat)
  case atStart => exact ⟨0, _, rfl, Nat.zero_le _, rfl, [], Or.inl ⟨rfl, rfl⟩, rfl, fun f hf => by simp at hf, fun g hg => (by cases hg), Below.refl _ _⟩
  case round =>
    obtain ⟨k, vv, rfl, hk, rfl, hL⟩ := hrel
    by_cases hlt : k < L.length
    · have HL := Lib.hid hL
      obtain ⟨M, hM, hmm, hn, ho, hB⟩ := hL
      obtain ⟨f, hf⟩ : ∃ f, L[k]? = some f := ⟨_, List.getElem?_eq_getElem hlt⟩
      obtain ⟨g, cap', hv', hc1, hc2, hg, k0, k1, k2⟩ := HS.out.1.fs.cell hf
      have hv2 := HS.out.2
      rw [hv'] at hv2
      simp only [Value.slice.injEq, true_and] at hv2
      obtain ⟨hao, hcap⟩ := hv2
      have d0 := (hB.cell (p := ⟨g, k * 3, none⟩) hg).trans k0
      have d1 := (hB.cell (p := ⟨g, k * 3 + 1, none⟩) hg).trans k1
      have d2 := (hB.cell (p := ⟨g, k * 3 + 2, none⟩) hg).trans k2
      have hwf := (HS.out.1.ws f (List.mem_of_getElem? hf)).move (K' := fun _ => True) (fun g hg _ => ⟨trivial, hB.block g hg⟩) hB.size
      have hwl : f.ws.length ≤ 4096 := by
        have h1 := HS.out.1.us
        have h2 := HS.out.1.r1
        have h3 := used_mem (List.mem_of_getElem? hf)
        omega
      have hmlen : M.length = k := by
        have := congrArg List.length hmm
        simp at this
        omega
      have hb1 := (Below.refl wr.heap.size wr).alloc (Nat.le_refl _) (.cells #[.int .i64 f.k, .int .i64 f.n, .slice f.a f.ws.length f.c] TF)
      have HB := Lib.hid (And.intro hM (And.intro hmm (And.intro hn (And.intro ho (And.intro hB (And.intro hmlen (And.intro hf hb1)))))))
      have HW := Lib.hid (And.intro (hwf.move (K' := fun _ => True) (fun g hg _ => ⟨trivial, hb1.block g hg⟩) hb1.size) hwl)
      subst hao
      clear hM hmm hn ho hB hf hv' hc1 hc2 hg k0 k1 k2 hwf hwl hmlen hb1
      go_wp2_with fail
      refine (copied_any f.k f.n f.a f.c f.ws (fun _ => True) _ HW.out.1 (by have := HW.out.2; omega)).mono ?_
      rintro e w5 ⟨g5, rfl, hc5, hl5, hm5, hb5, hf5⟩
      have H5 := Lib.hid (And.intro hc5 (And.intro hl5 (And.intro hm5 (And.intro hb5 hf5))))
      clear hc5 hl5 hm5 hb5 hf5 d0 d1 d2
      go_wp2_with (at_builtin; refine list_push rfl _ _ rfl (w5.alloc (.cells #[.int .i64 f.k, .int .i64 f.n, .slice (some ⟨g5, 0, none⟩) f.ws.length f.ws.length] TF)) vv _ rfl (HB.out.1.move fun x hx => (Below.heap_alloc _ _ _ (by have h1 := HB.out.1.lt x hx; have h2 := HB.out.2.2.2.2.2.2.2.size; have h3 := H5.out.2.2.2.1.size; omega)).trans ((H5.out.2.2.2.1.block x (by have h1 := HB.out.1.lt x hx; have h2 := HB.out.2.2.2.2.2.2.2.size; omega)).trans (HB.out.2.2.2.2.2.2.2.block x (HB.out.1.lt x hx)))) (by have := HB.out.2.2.2.2.2.1; have := HM.out; omega) w5.heap.size 1 rfl ⟨f.k, f.n, f.ws, some ⟨g5, 0, none⟩, f.ws.length⟩ (World.news_of_block (heap_alloc_new _ _)) ?_; intro v9 w9 h1 h2 h3; have H9 := Lib.hid (And.intro h1 (And.intro h2 h3)); clear h1 h2 h3)
      go_roundw
      case rel =>
        obtain ⟨hM, hmm, hn, ho, hB, hmlen, hf, hb1⟩ := HB.out
        obtain ⟨hc5, hl5, hm5, hb5, hf5⟩ := H5.out
        obtain ⟨h91, h92, h93⟩ := H9.out
        have sB := hB.size
        have s1 := hb1.size
        have s5 := hb5.size
        have sz : (w5.alloc (.cells #[.int .i64 f.k, .int .i64 f.n, .slice (some ⟨g5, 0, none⟩) f.ws.length f.ws.length] TF)).heap.size = w5.heap.size + 1 := World.size_alloc ..
        have s9 := h92.size
        have hlt3 := hM.lt
        have far : ∀ x, x < w5.heap.size → some x ≠ vv.ownBlock → w9.heap[x]? = w5.heap[x]? := fun x hx hne => (h92.block x (by omega) hne).trans (Below.heap_alloc _ _ _ hx)
        have own9 : ∀ x, v9.ownBlock = some x → vv.ownBlock = some x ∨ x = w5.heap.size + 1 := fun x hx => by
          rcases h93 with e | e
          · exact Or.inl (e ▸ hx)
          · rw [e, sz] at hx; right; have := Option.some.inj hx; omega
        have g5o : some g5 ≠ vv.ownBlock := fun e => by have := hlt3 g5 e.symm; omega
        refine ⟨k + 1, _, rfl, by omega, by go_num, M ++ [⟨f.k, f.n, f.ws, some ⟨g5, 0, none⟩, f.ws.length⟩], h91, ?_, fun f' hf' => ?_, fun x hx => ?_, ?_⟩
        · rw [List.map_append, hmm, List.take_add_one, hf]
          simp [Fr.told]
        · rcases List.mem_append.1 hf' with hf' | hf'
          · refine (hn f' hf').move (Nat.le_refl _) (by omega) fun x hx1 hx2 hx3 => ⟨fun e => ?_, (far x (by omega) hx3).trans ((hb5.block x (by omega)).trans (hb1.block x hx2))⟩
            rcases own9 x e.symm with h' | h'
            · exact hx3 h'.symm
            · omega
          · simp only [List.mem_singleton] at hf'
            subst hf'
            refine ⟨g5, rfl, by omega, by omega, fun e => ?_, Nat.le_refl _, hc5.1, fun i y hy => ?_, fun i => (World.frozen?_of_block (w := w5) (a := ⟨g5, i, none⟩) (far g5 hm5 g5o)).trans (hf5 i)⟩
            · rcases own9 g5 e.symm with h' | h'
              · exact g5o h'.symm
              · omega
            · have hpos : 0 < f.ws.length := by have := (List.getElem?_eq_some_iff.1 hy).1; simp only at this; omega
              obtain ⟨g', o', e', _, _, _, hc⟩ := hc5.2 hpos
              simp only [Option.some.injEq, Addr.mk.injEq, and_true] at e'
              obtain ⟨rfl, rfl⟩ := e'
              have := hc i y hy
              rw [Nat.zero_add] at this
              exact (World.cell?_of_block (w := w5) (a := ⟨g5, i, none⟩) (far g5 hm5 g5o)).trans this
        · rcases own9 x hx with h' | h'
          · exact ho x h'
          · omega
        · exact (((hB.trans (hb1.mono hB.size)).trans (hb5.mono (by omega))).alloc (by omega) _).grown h92 (by omega) (fun x hx => ho x hx)
      case measure => simp [RowKit.intOf]; omega
    · obtain rfl : k = L.length := by omega
      rw [List.take_of_length_le (Nat.le_refl _)] at hL
      have HL := Lib.hid hL
      obtain ⟨M, hM, -⟩ := hL
      obtain ⟨ao3, cap3, rfl⟩ := hM.sl
      clear hM
      go_wp2_with fail
      go_ret
      exact ⟨_, rfl, HL.out⟩

end Go.Proofs.Ytalfhcmccdnajaa
