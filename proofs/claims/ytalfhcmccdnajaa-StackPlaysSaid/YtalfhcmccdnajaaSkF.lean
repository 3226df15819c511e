/- The closures of Scan, Top and Pop; the cut of a stack's list. -/
import Derived.Test.YtalfhcmccdnajaaSkD
namespace Go.Proofs.Ytalfhcmccdnajaa
open Go.RowKit Go.Sort

set_option maxHeartbeats 1000000 in
theorem top1_any (j : Int) (w : World) : Calls Try.prog 31 #[.int .i64 j] w fun e w' => e = .returned (.tuple #[]) ∧ w' = w := by
  go_enter Try.func31, Try.ntmps31
  go_wp2
  go_end0
  exact ⟨rfl, rfl⟩
set_option maxHeartbeats 1000000 in
theorem scan1_any (j : Int) (B p : Nat) (u : Value) (w : World) (hB : w.cell? ⟨B, 0, none⟩ = some (.pointer (some ⟨p, 0, none⟩))) (h3 : w.cell? ⟨p, 3, none⟩ = some u) (z3 : w.frozen? ⟨p, 3, none⟩ = false) :
    Calls Try.prog 30 #[.int .i64 j, .pointer (some ⟨B, 0, none⟩)] w fun e w' => e = .returned (.tuple #[]) ∧ w' = w.setCell ⟨p, 3, none⟩ (.int .i64 j) := by
  go_enter Try.func30, Try.ntmps30
  go_wp2
  go_end0
  exact ⟨rfl, rfl⟩

set_option maxHeartbeats 4000000 in
theorem cut_any (p g n cap cap' : Nat) (cur : Array Value) (w : World) (h2 : w.cell? ⟨p, 2, none⟩ = some (.slice (some ⟨g, 0, none⟩) (n + 1) cap)) (z2 : w.frozen? ⟨p, 2, none⟩ = false) (hg : w.heap[g]? = some (.cells cur TF (0, 0))) (hn : n + 1 ≤ cap) (hc : cap ≤ maxLen) (hs : cap * 3 ≤ cur.size) (hne : g ≠ p) (hn2 : n ≤ 100000) (hcap : cap' = min (2 * n) cap) :
    Calls Try.prog 33 #[.pointer (some ⟨p, 0, none⟩), .int .i64 n] w fun e w' => e = .returned (.tuple #[]) ∧ w' = (w.setRow g (cur.toList.take (n * 3) ++ [Value.int .i64 0, .int .i64 0, .slice none 0 0] ++ cur.toList.drop (n * 3 + 3)).toArray).drew.setCell ⟨p, 2, none⟩ (.slice (some ⟨g, 0, none⟩) n cap') := by
  have hr := fun c ty => run_clear_last ty w g cur hg (n * 3) c (by omega)
  generalize (cur.toList.take (n * 3) ++ [Value.int .i64 0, .int .i64 0, .slice none 0 0] ++ cur.toList.drop (n * 3 + 3)).toArray = Z at hr ⊢
  have hp1 : (w.setRow g Z).cell? ⟨p, 2, none⟩ = some (.slice (some ⟨g, 0, none⟩) (n + 1) cap) := (World.cell?_of_block (w := w) (setRow_other w g p _ (fun e => hne e.symm))).trans h2
  have zp1 : (w.setRow g Z).frozen? ⟨p, 2, none⟩ = false := (World.frozen?_of_block (w := w) (setRow_other w g p _ (fun e => hne e.symm))).trans z2
  have hnc : ¬ cap = n := by omega
  have hsub : n + 1 - n = 1 := by omega
  have hc63 : cap ≤ 9223372036854775807 := by unfold maxLen at hc; omega
  have H := Lib.hid (And.intro hs hcap)
  clear hg hs hcap hc
  go_enter Try.func33, Try.ntmps33
  go_wp2_with fail
  generalize hW1 : w.setRow g Z = W1 at hp1 zp1 ⊢
  have HW1 := Lib.hid hW1
  clear hW1
  clear hr h2 z2 hnc hsub
  have hw2 : IntKind.i64.wrap (2 * (n : Int)) = 2 * (n : Int) := by rw [IntKind.wrap_i64]; omega
  by_cases hlt : 2 * n ≤ cap
  · have hlt' : ¬ (cap : Int) < (2 * (n : Int)) := by omega
    have hcc : cap' = 2 * n := by have := H.out.2; omega
    subst hcc
    have hs1 : (n : Int) ≤ 2 * (n : Int) := by omega
    have hs2 : 2 * (n : Int) ≤ (cap : Int) := by omega
    have hs3 : (2 * (n : Int)).toNat = 2 * n := by omega
    have hs4 : ¬ (2 * (n : Int)) < (n : Int) := by omega
    have hs5 : ¬ (cap : Int) < 2 * (n : Int) := by omega
    have hs6 : ¬ 2 * (n : Int) < 0 := by omega
    go_still_tail 17, (by kernel_rfl)
    change wpList _ _ _ _ _ W1.drew
    have hd1 : W1.drew.cell? ⟨p, 2, none⟩ = some (.slice (some ⟨g, 0, none⟩) (n + 1) cap) := hp1
    have hd2 : W1.drew.frozen? ⟨p, 2, none⟩ = false := zp1
    go_wp2
    go_end0
    exact ⟨rfl, by rw [HW1.out]⟩
  · have hlt' : (cap : Int) < 2 * (n : Int) := by omega
    have hcc : cap' = cap := by have := H.out.2; omega
    subst hcc
    have hs1 : (n : Int) ≤ (cap' : Int) := by omega
    have hs3 : ¬ (cap' : Int) < (n : Int) := by omega
    have hs4 : n ≤ cap' := by omega
    go_still_tail 17, (by kernel_rfl)
    change wpList _ _ _ _ _ W1.drew
    have hd1 : W1.drew.cell? ⟨p, 2, none⟩ = some (.slice (some ⟨g, 0, none⟩) (n + 1) cap') := hp1
    have hd2 : W1.drew.frozen? ⟨p, 2, none⟩ = false := zp1
    go_wp2
    go_end0
    exact ⟨rfl, by rw [HW1.out]⟩

theorem used_all (M : List Fr) (f : Fr) : used (M ++ [f]) - ((f.ws.length : Int) + 2) = used M := by rw [used_append]; omega

/-- What a pop leaves, step by step. -/
theorem pop_state {w0 W1 Wd W2 W3 W4 W5 : World} {p g cap cap' left left' : Nat} {room : Int} {M : List Fr} {f : Fr} {cur : Array Value} (h0 : St w0 p room (.slice (some ⟨g, 0, none⟩) (M ++ [f]).length cap) (M ++ [f]) left) (hb0 : Below w0.heap.size w0 W1) (hg : W4.heap[g]? = some (.cells cur TF (0, 0)))
    (hc : (M ++ [f]).length ≤ cap) (hm : cap ≤ maxLen) (hs : cap * 3 ≤ cur.size) (ht : cur.toList.take ((M ++ [f]).length * 3) = flatF (M ++ [f]))
    (hd : Below W1.heap.size W1 Wd) (e2 : W2 = Wd.setCell ⟨p, 3, none⟩ (.int .i64 left')) (h3 : Below W2.heap.size W2 W3) (e4 : W4 = W3.setCell ⟨p, 1, none⟩ (.int .i64 (used M))) (hcap : cap' = min (2 * M.length) cap) (hl : left' ≤ M.length)
    (e5 : W5 = (W4.setRow g (cur.toList.take (M.length * 3) ++ [Value.int .i64 0, .int .i64 0, .slice none 0 0] ++ cur.toList.drop (M.length * 3 + 3)).toArray).drew.setCell ⟨p, 2, none⟩ (.slice (some ⟨g, 0, none⟩) M.length cap')) :
    Kept p room (.slice (some ⟨g, 0, none⟩) (M ++ [f]).length cap) w0 M left' W5 ∧ W1.heap.size ≤ W5.heap.size ∧ ∀ k, k < W1.heap.size → k ≠ p → k ≠ g → W5.heap[k]? = W1.heap[k]? := by
  have h := h0.later hb0
  have hfs := FsAt.cut (W := W4) (cap := cap) (cap' := cap') rfl hg (by rw [hcap]; simp at hc; omega) (by omega) hm hs hc ht [Value.int .i64 0, .int .i64 0, .slice none 0 0] rfl
  have hgp : g ≠ p := fun e => h.ne (by rw [e]; rfl)
  have hlen : (M ++ [f]).length = M.length + 1 := by simp
  generalize hZ : (cur.toList.take (M.length * 3) ++ [Value.int .i64 0, .int .i64 0, .slice none 0 0] ++ cur.toList.drop (M.length * 3 + 3)).toArray = Z at *
  have hp := h.lp
  have sd := hd.size
  have s2 : W2.heap.size = Wd.heap.size := by rw [e2]; simp [World.setCell]
  have s3 := h3.size
  have s4 : W4.heap.size = W3.heap.size := by rw [e4]; simp [World.setCell]
  have s5 : W5.heap.size = W4.heap.size := by rw [e5]; simp [World.setCell, World.setRow, World.drew]
  have far : ∀ k, k < W1.heap.size → k ≠ p → k ≠ g → W5.heap[k]? = W1.heap[k]? := fun k hk k1 k2 => by
    rw [e5, Below.heap_setCell _ _ _ _ k1]
    show (W4.setRow g Z).heap[k]? = _
    rw [setRow_other W4 g k _ k2, e4, Below.heap_setCell _ _ _ _ k1, h3.block k (by omega), e2, Below.heap_setCell _ _ _ _ k1, hd.block k hk]
  have c3 : ∀ j, j ≠ 1 → W4.cell? ⟨p, j, none⟩ = W2.cell? ⟨p, j, none⟩ := fun j hj => by
    rw [e4, World.cell?_setCell_other _ _ _ _ (fun e => hj (by simpa using (congrArg Addr.off e).symm))]
    exact World.cell?_of_block (w := W2) (a := ⟨p, j, none⟩) (h3.block p (by omega))
  have c5 : ∀ j, j ≠ 2 → W5.cell? ⟨p, j, none⟩ = W4.cell? ⟨p, j, none⟩ := fun j hj => by
    rw [e5, World.cell?_setCell_other _ _ _ _ (fun e => hj (by simpa using (congrArg Addr.off e).symm))]
    exact World.cell?_of_block (w := W4) (a := ⟨p, j, none⟩) (setRow_other W4 g p _ (fun e => hgp e.symm))
  have cd : ∀ j, Wd.cell? ⟨p, j, none⟩ = W1.cell? ⟨p, j, none⟩ := fun j => World.cell?_of_block (w := W1) (a := ⟨p, j, none⟩) (hd.block p hp)
  have zz : ∀ j, W5.frozen? ⟨p, j, none⟩ = W1.frozen? ⟨p, j, none⟩ := fun j => by
    rw [e5, World.frozen?_setCell]
    show (W4.setRow g Z).frozen? _ = _
    rw [World.frozen?_of_block (w := W4) (a := ⟨p, j, none⟩) (setRow_other W4 g p _ (fun e => hgp e.symm)), e4, World.frozen?_setCell, World.frozen?_of_block (w := W2) (a := ⟨p, j, none⟩) (h3.block p (by omega)), e2, World.frozen?_setCell]
    exact World.frozen?_of_block (w := W1) (a := ⟨p, j, none⟩) (hd.block p hp)
  have hus := h.us
  rw [used_append] at hus
  have sb := hb0.size
  refine ⟨⟨.slice (some ⟨g, 0, none⟩) M.length cap', ⟨?_, ?_, ?_, ?_, ?_, ?_, ?_, ?_, ?_, ?_, hl, h.r0, h.r1, by omega⟩, ?_, fun x hx => hx, fun f' hf' => ?_⟩, by omega, far⟩
  · rw [c5 0 (by decide), c3 0 (by decide), e2, World.cell?_setCell_other _ _ _ _ (by simp), cd]; exact h.c0
  · rw [c5 1 (by decide), e4]; exact World.cell?_setCell_same _ _ _ (by rw [World.cell?_of_block (w := W2) (a := ⟨p, 1, none⟩) (h3.block p (by omega)), e2, World.cell?_setCell_other _ _ _ _ (by simp), cd]; exact h.c1)
  · rw [e5]; exact World.cell?_setCell_same _ _ _ (by
      show (W4.setRow g Z).cell? _ = _
      rw [World.cell?_of_block (w := W4) (a := ⟨p, 2, none⟩) (setRow_other W4 g p _ (fun e => hgp e.symm)), c3 2 (by decide), e2, World.cell?_setCell_other _ _ _ _ (by simp), cd]; exact h.c2)
  · rw [c5 3 (by decide), c3 3 (by decide), e2]; exact World.cell?_setCell_same _ _ _ (by rw [cd]; exact h.c3)
  · rw [zz]; exact h.z1
  · rw [zz]; exact h.z2
  · rw [zz]; exact h.z3
  · refine hfs.move fun x hx => ?_
    cases hx
    rw [e5, Below.heap_setCell _ _ _ _ hgp]
    rfl
  · exact fun e => hgp (Option.some.inj e)
  · intro f' hf'
    refine (h.ws f' (List.mem_append.2 (Or.inl hf'))).move (fun x hx hk => ⟨hk, far x hx hk.1 (fun e => hk.2 (by rw [e]; rfl))⟩) (by omega)
  · refine ⟨?_, ?_, ?_, by omega, fun k hk k1 k2 => (far k (by omega) k1 (fun e => k2 (by rw [e]; rfl))).trans (hb0.block k hk)⟩
    · rw [e5, e4]; exact h3.os.trans (by rw [e2]; exact hd.os.trans hb0.os)
    · rw [e5, e4]; exact h3.tape.trans (by rw [e2]; exact hd.tape.trans hb0.tape)
    · rw [e5, e4]; exact h3.output.trans (by rw [e2]; exact hd.output.trans hb0.output)
  · exact (h0.ws f' (List.mem_append.2 (Or.inl hf'))).move (fun x hx hk => ⟨⟨hx, hk⟩, (far x (by omega) hk.1 (fun e => hk.2 (by rw [e]; rfl))).trans (hb0.block x hx)⟩) (by omega)

end Go.Proofs.Ytalfhcmccdnajaa
