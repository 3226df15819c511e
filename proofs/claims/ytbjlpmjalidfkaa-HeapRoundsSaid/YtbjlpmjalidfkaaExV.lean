/- The document's room, new. (Out of stage 3's ExU.) -/
import Derived.Test.YtbjlpmjalidfkaaExL
namespace Go.Proofs.Ytbjlpmjalidfkaa.Ex
open Go.RowKit Go.Sort

theorem blk1 (w : World) (o : Obj) : (w.alloc o).heap[w.heap.size]? = some o := heap_alloc_new w o

theorem Try.info_bool : (Try.prog.info? 4).map (fun i => (i.zero, i.size, i.bytes)) = some (some (.bool false), 1, 1) := by kernel_rfl

/-- THE DOCUMENT's ROOM AS IT LIES. -/
structure Ref (w : World) (p d n : Nat) (ao : Option Addr) (cap : Nat) (F : Int) (B : Nat → Bool) : Prop where
  first : w.cell? ⟨p, 0, none⟩ = some (.int .i64 F)
  free : w.cell? ⟨p, 1, none⟩ = some (.slice ao n cap)
  addr : 0 < n → ao = some ⟨d, 0, none⟩ ∧ p ≠ d
  data : ∀ k, k < n → w.cell? ⟨d, k, none⟩ = some (.bool (B k))
  fd : ∀ k, k < n → w.frozen? ⟨d, k, none⟩ = false
  lp : p < w.heap.size
  ld : d < w.heap.size
theorem row_bool {w : World} {B n : Nat} {v : Value} (h : w.ownsRow B 4 1 v n (List.replicate n (.bool true))) (d0 : Nat) (hd0 : n = 0 → d0 < w.heap.size) :
    ∃ ao cap d, v = .slice ao n cap ∧ (0 < n → ao = some ⟨d, 0, none⟩ ∧ B ≤ d) ∧ (n = 0 → d = d0) ∧ d < w.heap.size ∧ (∀ k, k < n → w.cell? ⟨d, k, none⟩ = some (.bool true)) ∧ ∀ k, k < n → w.frozen? ⟨d, k, none⟩ = false := by
  by_cases h0 : n = 0
  · rcases h.2 with ⟨rfl, _⟩ | ⟨g, cap, cur, rfl, hb, hg, _⟩
    · exact ⟨none, 0, d0, by rw [h0], fun h => by omega, fun _ => rfl, hd0 h0, fun k hk => by omega, fun k hk => by omega⟩
    · exact ⟨_, cap, d0, rfl, fun h => by omega, fun _ => rfl, hd0 h0, fun k hk => by omega, fun k hk => by omega⟩
  · rcases h.2 with ⟨_, h1⟩ | ⟨g, cap, cur, rfl, hb, hg, hn, hm, hs, htake⟩
    · exact absurd h1 h0
    · refine ⟨_, cap, g, rfl, fun _ => ⟨rfl, hb⟩, fun h => absurd h h0, ?_, fun k hk => ?_, fun k hk => World.ownsRow.frozenAt h k⟩
      · rcases Nat.lt_or_ge g w.heap.size with h' | h'
        · exact h'
        · rw [Array.getElem?_eq_none h'] at hg; cases hg
      · rw [World.ownsRow.cellAt h k (by omega)]
        simp [hk]

/-- A place more. -/
theorem append_bool {ops : Array Oper} {rest : List Oper} {o : Oper} {a : Act} {Q : Exit → Act → World → Prop} (W : World) (hgd : o.guard = none) (s x : Operand)
    (ho : o.op = .call { callee := .builtin .append, args := #[s, x], argTypes := #[54, 54] }) (B k : Nat) (v : Value) (b : Nat) (hs : a.eval s = v) (hown : W.ownsRow B 4 1 v k (List.replicate k (.bool true)))
    (hx : a.eval x = .slice (some ⟨b, 0, none⟩) 1 1) (hb : W.heap[b]? = some (.cells #[.bool true] 4 (0, 0))) (hk : k ≤ 100000) (hB : B ≤ W.heap.size)
    (h : ∀ g cap w', w'.ownsRow B 4 1 (.slice (some ⟨g, 0, none⟩) (k + 1) cap) (k + 1) (List.replicate (k + 1) (.bool true)) → W.grownBy w' v.ownBlock → wpList Try.prog ops Q rest (a.put o.dst (.slice (some ⟨g, 0, none⟩) (k + 1) cap)) w') : wpList Try.prog ops Q (o :: rest) a W := by
  obtain ⟨i0, hi0, hz0, hzs, hzb⟩ := info_parts Try.info_bool
  refine wpList_append_lies W hgd s x 54 ho B 4 i0 _ 1 1 Try.underlying54 hi0 hz0 hzs hzb rfl (by decide) v k (List.replicate k (.bool true)) hs hown ⟨b, 0, none⟩ 1 1 [Value.bool true] hx rfl (World.news_of_block hb) (by intro u hu; simp at hu; subst hu; rfl) (by decide) (by unfold maxLen; omega) (by omega) hB W.heap.size rfl ?_
  intro g cap w' h1 h2 _ _
  refine h g cap w' ?_ h2
  rw [List.replicate_succ']
  exact h1
theorem block_keeps {w wr w9 : World} {k : Nat} {v : Value} {o : Obj} {xs : List Value} (hO : wr.ownsRow (w.heap.size + 1) 4 1 v k xs) (hg : (wr.alloc o).grownBy w9 v.ownBlock) (hsz : w.heap.size + 1 ≤ wr.heap.size) : w9.heap[w.heap.size]? = wr.heap[w.heap.size]? :=
  (hg.block w.heap.size (by simp; omega) fun e => by have := (hO.lt _ e.symm).1; omega).trans (heap_alloc_old wr o (by omega))

set_option maxHeartbeats 4000000 in
set_option maxRecDepth 100000 in
theorem rnew_in (F N : Int) (w : World) (f0 : 0 ≤ F) (f1 : F ≤ 65536) (n0 : 0 ≤ N) (n1 : N ≤ 300) :
    Calls Try.prog 55 #[.int .i64 F, .int .i64 N] w fun e w' => ∃ p d ao cap, e = .returned (.tuple #[.pointer (some ⟨p, 0, none⟩), .int .i64 0]) ∧ Ref w' p d N.toNat ao cap F (fun _ => true) ∧ Below w.heap.size w w' ∧ w.heap.size ≤ p ∧ w.heap.size ≤ d := by
  obtain ⟨i0, hi0, hz0, hzs, hzb⟩ := info_parts Try.info_bool
  obtain ⟨n, rfl⟩ : ∃ n : Nat, N = n := ⟨N.toNat, by omega⟩
  rw [Int.toNat_natCast]
  go_enter Try.func55, Try.ntmps55
  go_wp2_with fail
  go_loopw [7] (fun s wr => ∃ (k : Nat) (v : Value), k ≤ n ∧ s = .int .i64 k ∧ wr.cell? ⟨w.heap.size, 0, none⟩ = some (.int .i64 F) ∧ wr.cell? ⟨w.heap.size, 1, none⟩ = some v ∧ wr.frozen? ⟨w.heap.size, 1, none⟩ = false ∧ wr.ownsRow (w.heap.size + 1) 4 1 v k (List.replicate k (.bool true)) ∧ Below w.heap.size w wr ∧ w.heap.size + 1 ≤ wr.heap.size) (fun s _ => n - (intOf s).toNat)
  case atStart => exact ⟨0, _, Nat.zero_le _, rfl, by simp [go_sem], by simp [go_sem], by simp [go_sem], World.ownsRow_nil _ _ _ _, (Below.refl _ w).alloc (Nat.le_refl _) _, by simp⟩
  case round =>
    obtain ⟨k, v, hk, rfl, q0, q1, qz, hO, hB, hsz⟩ := hrel
    have HO := Lib.hid hO
    have HB := Lib.hid hB
    clear hO hB
    by_cases hlt : k < n
    · have hlt' : (k : Int) < (n : Int) := by omega
      go_wp2_with (at_builtin; refine append_bool _ rfl _ _ rfl (w.heap.size + 1) k v wr.heap.size rfl (HO.out.alloc _) rfl (blk1 _ _) (by omega) (by simp; omega) ?_; intro g' cap' w9 hown hgr; have hbk := block_keeps HO.out hgr hsz; have c9 := (World.cell?_of_block (a := ⟨w.heap.size, 1, none⟩) hbk).trans q1; have z9 := (World.frozen?_of_block (a := ⟨w.heap.size, 1, none⟩) hbk).trans qz)
      have d9 := (World.cell?_of_block (a := ⟨w.heap.size, 0, none⟩) hbk).trans q0
      have hB9 : Below w.heap.size w w9 := (HB.out.alloc HB.out.size (.cells #[.bool true] 4)).grown hgr (by simp; omega) (fun j hj => by have := (HO.out.lt j hj).1; omega)
      have hs9 : w.heap.size + 1 ≤ w9.heap.size := by have := hgr.size; simp at this; omega
      have HO9 := Lib.hid (ownsRow_setCell_below hown (a := ⟨w.heap.size, 1, none⟩) (by simp) (.slice (some ⟨g', 0, none⟩) (k + 1) cap'))
      exact ⟨⟨k + 1, _, by omega, by go_num, (World.cell?_setCell_other _ _ _ _ (by simp)).trans d9, World.cell?_setCell_same _ _ _ c9, (World.frozen?_setCell _ _ _ _).trans z9, HO9.out, hB9.setCell (Nat.le_refl _) _, by simp [World.setCell]; omega⟩, by simp [intOf]; omega⟩
    · obtain rfl : k = n := by omega
      obtain ⟨ao, cap, d, rfl, h1, h2, h3, h4, h5⟩ := row_bool HO.out w.heap.size (fun _ => by omega)
      have HR : Hid (Ref wr w.heap.size d k ao cap F (fun _ => true)) := ⟨q0, q1, fun h => ⟨(h1 h).1, by have := (h1 h).2; omega⟩, h4, h5, by omega, h3⟩
      have hd : w.heap.size ≤ d := by
        by_cases h0 : k = 0
        · have := h2 h0; omega
        · have := (h1 (by omega)).2; omega
      clear h1 h2 h3 h4 h5 q0 q1 qz HO
      go_wp2_with fail
      go_ret2
      exact ⟨_, _, _, _, rfl, HR.out, HB.out, Nat.le_refl _, hd⟩


end Go.Proofs.Ytbjlpmjalidfkaa.Ex
