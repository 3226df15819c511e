/- Both stacks, side by side, in the midst of the law. -/
import Derived.Test.YtalfhcmccdnajaaSlH
namespace Go.Proofs.Ytalfhcmccdnajaa
open Go.RowKit Go.Sort

/-- The program's stack and the document's. -/
structure Half (w : World) (p q : Nat) (room : Int) (v : Value) (L : List Fr) (left : Nat) (vL vT : Value) (R : List Fr) (lr : Nat) (W : World) : Prop where
  mid : Mid w p room v L left W
  rf : Rf W q vL vT room R lr
  lq : w.heap.size ≤ q
  oq : Off q p v
  ol : ∀ g, vL.ownBlock = some g → w.heap.size ≤ g ∧ Off g p v
  ot : ∀ g, vT.ownBlock = some g → w.heap.size ≤ g ∧ Off g p v
  rw : ∀ f, f ∈ R → WAt (fun _ => True) w f
  lw : ∀ f, f ∈ L → WAt (fun g => g ≠ q ∧ some g ≠ vL.ownBlock ∧ some g ≠ vT.ownBlock) W f
section
variable {w W W' : World} {p q left left' lr lr' : Nat} {room : Int} {v vL vT : Value} {L L' R R' : List Fr}
theorem Half.later (h : Half w p q room v L left vL vT R lr W) (hb : Below W.heap.size W W') : Half w p q room v L left vL vT R lr W' :=
  ⟨h.mid.later hb, h.rf.later hb, h.lq, h.oq, h.ol, h.ot, h.rw, fun f hf => (h.lw f hf).move (fun g hg hk => ⟨hk, hb.block g hg⟩) hb.size⟩
/-- Behind a call of the program's. -/
theorem Half.did (h : Half w p q room v L left vL vT R lr W) (hd : Did p room v W L' left' W') (hsub : ∀ f, f ∈ L' → f ∈ L ∨ WAt (fun g => W.heap.size ≤ g) W' f) : ∃ v', Half w p q room v' L' left' vL vT R lr W' := by
  obtain ⟨v', hM, hW⟩ := h.mid.did hd
  have hq := h.rf.lq
  have hL := h.rf.fs.lt
  have hT := h.rf.bs.lt
  obtain ⟨oq, bq⟩ := h.oq.went hW hq
  refine ⟨v', hM, h.rf.keep bq (fun g hg => ((h.ol g hg).2.went hW (hL g hg)).2) (fun g hg => ((h.ot g hg).2.went hW (hT g hg)).2), h.lq, oq, fun g hg => ⟨(h.ol g hg).1, ((h.ol g hg).2.went hW (hL g hg)).1⟩, fun g hg => ⟨(h.ot g hg).1, ((h.ot g hg).2.went hW (hT g hg)).1⟩, h.rw, fun f hf => ?_⟩
  rcases hsub f hf with h' | h'
  · exact ((h.mid.st.ws f h').both (h.lw f h')).move (fun g hl hk => ⟨hk.2, hW.1.block g hl hk.1.1 hk.1.2⟩) hW.1.size
  · exact h'.move (fun g _ hk => ⟨⟨by omega, fun e => by have := hL g e.symm; omega, fun e => by have := hT g e.symm; omega⟩, rfl⟩) (Nat.le_refl _)
/-- Behind a call of the document's. -/
theorem Half.rdid (h : Half w p q room v L left vL vT R lr W) (hd : RDid q room vL vT W R' lr' W') (hrw : ∀ f, f ∈ R' → WAt (fun _ => True) w f) : ∃ vL' vT', Half w p q room v L left vL' vT' R' lr' W' ∧ ∀ k, k < W.heap.size → k ≠ q → some k ≠ vL.ownBlock → some k ≠ vT.ownBlock → W'.heap[k]? = W.heap[k]? := by
  obtain ⟨vL', vT', h1, h2, h3, h4⟩ := hd
  have hp := h.mid.st.lp
  have hv := h.mid.st.fs.lt
  have hs := h.mid.below.size
  have hbp : W'.heap[p]? = W.heap[p]? := h2.block p hp (fun e => h.oq.1 e.symm) (fun e => (h.ol p e.symm).2.1 rfl) (fun e => (h.ot p e.symm).2.1 rfl)
  have hbv : ∀ g, v.ownBlock = some g → W'.heap[g]? = W.heap[g]? := fun g hg => h2.block g (hv g hg) (fun e => h.oq.2 (by rw [hg, e])) (fun e => (h.ol g e.symm).2.2 hg.symm) (fun e => (h.ot g e.symm).2.2 hg.symm)
  refine ⟨vL', vT', ⟨⟨h.mid.st.move2 hbp hbv (fun f hf => ((h.mid.st.ws f hf).both (h.lw f hf)).move (fun g hl hk => ⟨hk.1, h2.block g hl hk.2.1 hk.2.2.1 hk.2.2.2⟩) h2.size), ⟨h2.os.trans h.mid.below.os, h2.tape.trans h.mid.below.tape, h2.output.trans h.mid.below.output, Nat.le_trans hs h2.size, fun k hk => (h2.block k (by omega) (by have := h.lq; omega) (fun e => by have := (h.ol k e.symm).1; omega) (fun e => by have := (h.ot k e.symm).1; omega)).trans (h.mid.below.block k hk)⟩, h.mid.lp, h.mid.lo⟩, h1, h.lq, h.oq, fun g hg => ?_, fun g hg => ?_, hrw, fun f hf => ?_⟩, h2.block⟩
  · rcases h3 g hg with e | e
    · exact h.ol g e
    · exact ⟨by omega, off_new h.mid e⟩
  · rcases h4 g hg with e | e
    · exact h.ot g e
    · exact ⟨by omega, off_new h.mid e⟩
  · exact (h.lw f hf).move (fun g hl hk => ⟨⟨hk.1, fun e => by rcases h3 g e.symm with e' | e' <;> first | exact hk.2.1 e'.symm | omega, fun e => by rcases h4 g e.symm with e' | e' <;> first | exact hk.2.2 e'.symm | omega⟩, h2.block g hl hk.1 hk.2.1 hk.2.2⟩) h2.size
end

/-- Both stacks have the same. -/
def Two (w : World) (p q : Nat) (room : Int) (L : List Fr) (left : Nat) (R : List Fr) (W : World) : Prop :=
  ∃ v vL vT, Half w p q room v L left vL vT R left W ∧ R.map Fr.told = L.map Fr.told

end Go.Proofs.Ytalfhcmccdnajaa
