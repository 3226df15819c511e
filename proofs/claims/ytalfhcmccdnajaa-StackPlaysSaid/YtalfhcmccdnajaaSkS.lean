/- The law's do: a call of each kind. -/
import Derived.Test.YtalfhcmccdnajaaSkQ
namespace Go.Proofs.Ytalfhcmccdnajaa
open Go.RowKit Go.Sort

abbrev TT : TypeId := 39
abbrev TA : TypeId := 42
/-- What a call leaves, as long as boxes of the caller's (from w on, below n) are written still. -/
def DidB (p : Nat) (room : Int) (v : Value) (w : World) (n : Nat) (L : List Fr) (left : Nat) (W : World) : Prop :=
  ∃ v', St W p room v' L left ∧ Turn p v w W ∧ (∀ g, v'.ownBlock = some g → v.ownBlock = some g ∨ n ≤ g) ∧ ∀ f, f ∈ L → WAt (fun g => (g < w.heap.size ∨ n ≤ g) ∧ g ≠ p ∧ some g ≠ v'.ownBlock) W f
section
variable {p left left' n : Nat} {room : Int} {v : Value} {w W W' : World} {L L' : List Fr}
theorem DidB.did (h : DidB p room v w n L left W) (hn : w.heap.size ≤ n) : Did p room v w L left W := by
  obtain ⟨v', h1, h2, h3, -⟩ := h
  exact ⟨v', h1, h2, fun g hg => by rcases h3 g hg with h | h; exact Or.inl h; exact Or.inr (by omega)⟩
theorem DidB.box (h : DidB p room v w n L left W) (hp : p < w.heap.size) (hv : ∀ g, v.ownBlock = some g → g < w.heap.size) {b i : Nat} (hb : w.heap.size ≤ b) (hbn : b < n) (u : Value) : DidB p room v w n L left (W.setCell ⟨b, i, none⟩ u) := by
  obtain ⟨v', h1, h2, h3, h4⟩ := h
  have hs := h2.size
  have far : ∀ k, k ≠ b → (W.setCell ⟨b, i, none⟩ u).heap[k]? = W.heap[k]? := fun k hk => Below.heap_setCell _ _ _ _ hk
  have hpb : (W.setCell ⟨b, i, none⟩ u).heap[p]? = W.heap[p]? := far p (by omega)
  have hz : (W.setCell ⟨b, i, none⟩ u).heap.size = W.heap.size := by simp [World.setCell]
  refine ⟨v', ⟨(World.cell?_of_block (w := W) hpb).trans h1.c0, (World.cell?_of_block (w := W) hpb).trans h1.c1, (World.cell?_of_block (w := W) hpb).trans h1.c2, (World.cell?_of_block (w := W) hpb).trans h1.c3, (World.frozen?_of_block (w := W) hpb).trans h1.z1, (World.frozen?_of_block (w := W) hpb).trans h1.z2, (World.frozen?_of_block (w := W) hpb).trans h1.z3, h1.fs.move (fun g hg => far g (by rcases h3 g hg with h | h; (have := hv g h; omega); omega)), h1.ne, fun f hf => (h4 f hf).move (fun g _ hk => ⟨hk.2, far g (by have := hk.1; omega)⟩) (by omega), h1.le, h1.r0, h1.r1, h1.us⟩, ⟨h2.os, h2.tape, h2.output, by omega, fun k hk k1 k2 => (far k (by omega)).trans (h2.block k hk k1 k2)⟩, h3, fun f hf => (h4 f hf).move (fun g _ hk => ⟨hk, far g (by have := hk.1; omega)⟩) (by omega)⟩
theorem DidB.of_kept (h : St w p room v L left) (hb : Below w.heap.size w W) (hk : Kept p room v W L' left' W') (hsub : ∀ f, f ∈ L' → f ∈ L) : DidB p room v w W.heap.size L' left' W' := by
  obtain ⟨v', k1, k2, k3, -⟩ := hk
  refine ⟨v', k1, ⟨k2.os.trans hb.os, k2.tape.trans hb.tape, k2.output.trans hb.output, Nat.le_trans hb.size k2.size, fun k hk h1 h2 => (k2.block k (Nat.lt_of_lt_of_le hk hb.size) h1 h2).trans (hb.block k hk)⟩, fun g hg => Or.inl (k3 g hg), fun f hf => (h.ws f (hsub f hf)).move (fun g hl hk => ⟨⟨Or.inl hl, hk.1, fun e => hk.2 (k3 g e.symm).symm⟩, (k2.block g (Nat.lt_of_lt_of_le hl hb.size) hk.1 hk.2).trans (hb.block g hl)⟩) (Nat.le_trans hb.size k2.size)⟩
theorem DidB.of_did (h : St w p room v L left) (hb : Below w.heap.size w W) (hd : Did p room v W L' left' W') (hsub : ∀ f, f ∈ L' → f ∈ L ∨ WAt (fun g => W.heap.size ≤ g) W' f) : DidB p room v w W.heap.size L' left' W' := by
  obtain ⟨v', k1, k2, k3⟩ := hd
  have hl0 := h.fs.lt
  refine ⟨v', k1, ⟨k2.os.trans hb.os, k2.tape.trans hb.tape, k2.output.trans hb.output, Nat.le_trans hb.size k2.size, fun k hk h1 h2 => (k2.block k (Nat.lt_of_lt_of_le hk hb.size) h1 h2).trans (hb.block k hk)⟩, k3, fun f hf => ?_⟩
  rcases hsub f hf with h' | h'
  · refine ((h.ws f h').move (W' := W') (K' := fun g => g < w.heap.size) (fun g hl hk => ⟨hl, (k2.block g (Nat.lt_of_lt_of_le hl hb.size) hk.1 hk.2).trans (hb.block g hl)⟩) (Nat.le_trans hb.size k2.size)).both (k1.ws f hf) |>.move (fun g _ hk => ⟨⟨Or.inl hk.1, hk.2⟩, rfl⟩) (Nat.le_refl _)
  · exact (h'.both (k1.ws f hf)).move (fun g _ hk => ⟨⟨Or.inr hk.1, hk.2⟩, rfl⟩) (Nat.le_refl _)
end

theorem six_cells {W : World} {b : Nat} {u0 u1 u2 u3 u4 u5 : Value} (x0 x1 x2 x3 x4 x5 : Value) (h0 : W.cell? ⟨b, 0, none⟩ = some u0) (h1 : W.cell? ⟨b, 1, none⟩ = some u1) (h2 : W.cell? ⟨b, 2, none⟩ = some u2) (h3 : W.cell? ⟨b, 3, none⟩ = some u3) (h4 : W.cell? ⟨b, 4, none⟩ = some u4) (h5 : W.cell? ⟨b, 5, none⟩ = some u5) :
    ∃ Z, Z = ((((((W.setCell ⟨b, 0, none⟩ x0).setCell ⟨b, 1, none⟩ x1).setCell ⟨b, 2, none⟩ x2).setCell ⟨b, 3, none⟩ x3).setCell ⟨b, 4, none⟩ x4).setCell ⟨b, 5, none⟩ x5) ∧ Z.cell? ⟨b, 0, none⟩ = some x0 ∧ Z.cell? ⟨b, 1, none⟩ = some x1 ∧ Z.cell? ⟨b, 2, none⟩ = some x2 ∧ Z.cell? ⟨b, 3, none⟩ = some x3 ∧ Z.cell? ⟨b, 4, none⟩ = some x4 ∧ Z.cell? ⟨b, 5, none⟩ = some x5 := by
  obtain ⟨a0, a1, a2⟩ := three_cells u0 u1 u2 x0 x1 x2 h0 h1 h2
  generalize hV : ((W.setCell ⟨b, 0, none⟩ x0).setCell ⟨b, 1, none⟩ x1).setCell ⟨b, 2, none⟩ x2 = V at a0 a1 a2
  have far : ∀ j, 2 < j → V.cell? ⟨b, j, none⟩ = W.cell? ⟨b, j, none⟩ := fun j hj => by
    rw [← hV, World.cell?_setCell_other _ _ _ _ (fun e => by have := congrArg Addr.off e; simp at this; omega), World.cell?_setCell_other _ _ _ _ (fun e => by have := congrArg Addr.off e; simp at this; omega), World.cell?_setCell_other _ _ _ _ (fun e => by have := congrArg Addr.off e; simp at this; omega)]
  refine ⟨_, rfl, ?_, ?_, ?_, ?_, ?_, ?_⟩
  · rw [World.cell?_setCell_other _ _ _ _ (by simp), World.cell?_setCell_other _ _ _ _ (by simp), World.cell?_setCell_other _ _ _ _ (by simp)]; exact a0
  · rw [World.cell?_setCell_other _ _ _ _ (by simp), World.cell?_setCell_other _ _ _ _ (by simp), World.cell?_setCell_other _ _ _ _ (by simp)]; exact a1
  · rw [World.cell?_setCell_other _ _ _ _ (by simp), World.cell?_setCell_other _ _ _ _ (by simp), World.cell?_setCell_other _ _ _ _ (by simp)]; exact a2
  · rw [World.cell?_setCell_other _ _ _ _ (by simp), World.cell?_setCell_other _ _ _ _ (by simp)]; exact World.cell?_setCell_same _ _ _ ((far 3 (by decide)).trans h3)
  · rw [World.cell?_setCell_other _ _ _ _ (by simp)]; exact World.cell?_setCell_same _ _ _ (by rw [World.cell?_setCell_other _ _ _ _ (by simp)]; exact (far 4 (by decide)).trans h4)
  · exact World.cell?_setCell_same _ _ _ (by rw [World.cell?_setCell_other _ _ _ _ (by simp), World.cell?_setCell_other _ _ _ _ (by simp)]; exact (far 5 (by decide)).trans h5)
theorem DidB.six {p left n : Nat} {room : Int} {v : Value} {w W : World} {L : List Fr} (h : DidB p room v w n L left W) (hp : p < w.heap.size) (hv : ∀ g, v.ownBlock = some g → g < w.heap.size) {b : Nat} (hb : w.heap.size ≤ b) (hbn : b < n) (x0 x1 x2 x3 x4 x5 : Value) :
    DidB p room v w n L left ((((((W.setCell ⟨b, 0, none⟩ x0).setCell ⟨b, 1, none⟩ x1).setCell ⟨b, 2, none⟩ x2).setCell ⟨b, 3, none⟩ x3).setCell ⟨b, 4, none⟩ x4).setCell ⟨b, 5, none⟩ x5) :=
  (((((h.box hp hv hb hbn _).box hp hv hb hbn _).box hp hv hb hbn _).box hp hv hb hbn _).box hp hv hb hbn _).box hp hv hb hbn _
theorem WAt.pokeK {K : Nat → Prop} {W : World} {f : Fr} {b : Nat} (h : WAt K W f) (hb : ∀ g, K g → g ≠ b) (i : Nat) (u : Value) : WAt K (W.setCell ⟨b, i, none⟩ u) f :=
  h.move (fun x _ hk => ⟨hk, Below.heap_setCell _ _ _ _ (hb x hk)⟩) (by simp [World.setCell])
/-- The boxes of do. -/
theorem do_boxes (w : World) (X k n : Int) (a : Option Addr) (m c : Nat) :
    ∃ W, W = ((w.alloc (.cells #[.int .i64 X, .int .i64 k, .int .i64 n, .slice a m c] TA)).alloc (.cells #[.int .i64 0, .int .i64 0, .slice none 0 0, .bool false, .bool false, .int .i64 0] TT)).alloc (.cells #[.int .i64 0, .int .i64 0, .slice none 0 0, .bool false, .bool false, .int .i64 0] TT) ∧ Below w.heap.size w W ∧ W.heap.size = w.heap.size + 3 ∧ W.heap[w.heap.size]? = some (.cells #[.int .i64 X, .int .i64 k, .int .i64 n, .slice a m c] TA (0, 0)) ∧ W.heap[w.heap.size + 1]? = some (.cells #[.int .i64 0, .int .i64 0, .slice none 0 0, .bool false, .bool false, .int .i64 0] TT (0, 0)) ∧ W.heap[w.heap.size + 2]? = some (.cells #[.int .i64 0, .int .i64 0, .slice none 0 0, .bool false, .bool false, .int .i64 0] TT (0, 0)) := by
  have z1 : (w.alloc (.cells #[.int .i64 X, .int .i64 k, .int .i64 n, .slice a m c] TA)).heap.size = w.heap.size + 1 := World.size_alloc ..
  have z2 : ((w.alloc (.cells #[.int .i64 X, .int .i64 k, .int .i64 n, .slice a m c] TA)).alloc (.cells #[.int .i64 0, .int .i64 0, .slice none 0 0, .bool false, .bool false, .int .i64 0] TT)).heap.size = w.heap.size + 2 := by rw [World.size_alloc, z1]
  refine ⟨_, rfl, (((Below.refl w.heap.size w).alloc (Nat.le_refl _) _).alloc (by omega) _).alloc (by omega) _, by rw [World.size_alloc, z2], ?_, ?_, ?_⟩
  · rw [Below.heap_alloc _ _ _ (by omega), Below.heap_alloc _ _ _ (by omega)]; exact heap_alloc_new _ _
  · rw [Below.heap_alloc _ _ _ (by omega), ← z1]; exact heap_alloc_new _ _
  · rw [← z2]; exact heap_alloc_new _ _

set_option maxHeartbeats 8000000 in
theorem do_push_in (p left : Nat) (room : Int) (v : Value) (L : List Fr) (k n : Int) (a : Option Addr) (c : Nat) (ws : List Int) (w : World) (h : St w p room v L left) {K : Nat → Prop} (hw : WAt K w ⟨k, n, ws, a, c⟩) (hr : (ws.length : Int) + 2 ≤ room - used L) :
    Calls Try.prog 11 #[.pointer (some ⟨p, 0, none⟩), .agg #[.int .i64 0, .int .i64 k, .int .i64 n, .slice a ws.length c]] w fun e w' => ∃ f : Fr, e = .returned (.agg #[.int .i64 0, .int .i64 0, .slice none 0 0, .bool false, .bool false, .int .i64 0]) ∧ f.told = (k, n, ws) ∧ Did p room v w (L ++ [f]) left w' ∧ WAt (fun g => w.heap.size ≤ g) w' f := by
  obtain ⟨W, hW, hb, hz, hX, hR, hT⟩ := do_boxes w 0 k n a ws.length c
  have HX := Lib.hid (And.intro hb (And.intro hz (And.intro (h.later hb) (And.intro h (And.intro hR hT)))))
  have x0 := cell_of_row _ _ 0 _ _ _ hX
  have x1 := cell_of_row _ _ 1 _ _ _ hX
  have x2 := cell_of_row _ _ 2 _ _ _ hX
  have x3 := cell_of_row _ _ 3 _ _ _ hX
  have HW := Lib.hid (And.intro hw hr)
  clear hw hr
  clear h hb hz hX hR hT
  go_enter Try.func11, Try.ntmps11
  go_wp2_with fail
  rw [← hW]
  clear hW
  refine (push_in p left room v L k n a c ws K W HX.out.2.2.1 (HW.out.1.move (fun g hg hk => ⟨hk, HX.out.1.block g hg⟩) HX.out.1.size) HW.out.2).mono ?_
  rintro e w1 ⟨rfl, f, hft, hd, hwf⟩
  clear x0 x1 x2 x3
  have hz := HX.out.2.1
  have hp := HX.out.2.2.2.1.lp
  have hl := HX.out.2.2.2.1.fs.lt
  have hDB : DidB p room v w W.heap.size (L ++ [f]) left w1 := DidB.of_did HX.out.2.2.2.1 HX.out.1 hd (fun x hx => by
    rcases List.mem_append.1 hx with hx | hx
    · exact Or.inl hx
    · simp only [List.mem_singleton] at hx; subst hx; exact Or.inr hwf)
  have HGF := Lib.hid hwf
  obtain ⟨v1, -, htn, -⟩ := hd
  clear hwf
  have far : ∀ b, w.heap.size ≤ b → b < W.heap.size → w1.heap[b]? = W.heap[b]? := fun b h1 h2 => htn.block b h2 (by omega) (fun e => by have := hl b e.symm; omega)
  have r1 := (far (w.heap.size + 1) (by omega) (by omega)).trans HX.out.2.2.2.2.1
  have r2 := (far (w.heap.size + 2) (by omega) (by omega)).trans HX.out.2.2.2.2.2
  have HDB := Lib.hid hDB
  clear hDB far hz hp hl
  have t0 := cell_of_row _ _ 0 _ _ _ r2
  have t1 := cell_of_row _ _ 1 _ _ _ r2
  have t2 := cell_of_row _ _ 2 _ _ _ r2
  have t3 := cell_of_row _ _ 3 _ _ _ r2
  have t4 := cell_of_row _ _ 4 _ _ _ r2
  have t5 := cell_of_row _ _ 5 _ _ _ r2
  have u0 := cell_of_row _ _ 0 _ _ _ r1
  have u1 := cell_of_row _ _ 1 _ _ _ r1
  have u2 := cell_of_row _ _ 2 _ _ _ r1
  have u3 := cell_of_row _ _ 3 _ _ _ r1
  have u4 := cell_of_row _ _ 4 _ _ _ r1
  have u5 := cell_of_row _ _ 5 _ _ _ r1
  have ft0 := frozen_of_row _ _ 0 _ _ r2
  have ft1 := frozen_of_row _ _ 1 _ _ r2
  have ft2 := frozen_of_row _ _ 2 _ _ r2
  have ft3 := frozen_of_row _ _ 3 _ _ r2
  have ft4 := frozen_of_row _ _ 4 _ _ r2
  have ft5 := frozen_of_row _ _ 5 _ _ r2
  have fu0 := frozen_of_row _ _ 0 _ _ r1
  have fu1 := frozen_of_row _ _ 1 _ _ r1
  have fu2 := frozen_of_row _ _ 2 _ _ r1
  have fu3 := frozen_of_row _ _ 3 _ _ r1
  have fu4 := frozen_of_row _ _ 4 _ _ r1
  have fu5 := frozen_of_row _ _ 5 _ _ r1
  clear r1 r2
  go_wp2_with fail
  obtain ⟨Z, hZ, z0, z1, z2, z3, z4, z5⟩ := six_cells (W := (w1.setCell ⟨w.heap.size + 1 + 1, 5, none⟩ (.int .i64 0))) (b := w.heap.size + 1) (.int .i64 0) (.int .i64 0) (.slice none 0 0) (.bool false) (.bool false) (.int .i64 0) (by rw [World.cell?_setCell_other _ _ _ _ (by simp)]; exact u0) (by rw [World.cell?_setCell_other _ _ _ _ (by simp)]; exact u1) (by rw [World.cell?_setCell_other _ _ _ _ (by simp)]; exact u2) (by rw [World.cell?_setCell_other _ _ _ _ (by simp)]; exact u3) (by rw [World.cell?_setCell_other _ _ _ _ (by simp)]; exact u4) (by rw [World.cell?_setCell_other _ _ _ _ (by simp)]; exact u5)
  have HZ : Hid (DidB p room v w W.heap.size (L ++ [f]) left Z) := by
    have hz := HX.out.2.1
    have hp := HX.out.2.2.2.1.lp
    have hl := HX.out.2.2.2.1.fs.lt
    rw [hZ]
    exact ((HDB.out.box hp hl (by omega) (by omega) _)).six hp hl (by omega) (by omega) _ _ _ _ _ _
  have HGZ : Hid (WAt (fun g => w.heap.size ≤ g) Z f) := by
    rw [hZ]
    have hz := HX.out.2.1
    have hg := HGF.out
    exact (((((((hg.pokeK (fun g hk => by omega) _ _).pokeK (fun g hk => by omega) _ _).pokeK (fun g hk => by omega) _ _).pokeK (fun g hk => by omega) _ _).pokeK (fun g hk => by omega) _ _).pokeK (fun g hk => by omega) _ _).pokeK (fun g hk => by omega) _ _).move (fun g _ hk => ⟨by omega, rfl⟩) (Nat.le_refl _)
  rw [← hZ]
  refine bodyPost_ret (v := .agg #[.int .i64 0, .int .i64 0, .slice none 0 0, .bool false, .bool false, .int .i64 0]) (by simp [results, Try.results11, go_sem, z0, z1, z2, z3, z4, z5]) rfl ⟨f, rfl, hft, HZ.out.did (by have := HX.out.2.1; omega), HGZ.out⟩

set_option maxHeartbeats 8000000 in
theorem do_push_out (p left : Nat) (room : Int) (v : Value) (L : List Fr) (k n : Int) (a : Option Addr) (c : Nat) (ws : List Int) (w : World) (h : St w p room v L left) (hm : ws.length ≤ 9223372036854775805) (hr : room - used L < (ws.length : Int) + 2) :
    Calls Try.prog 11 #[.pointer (some ⟨p, 0, none⟩), .agg #[.int .i64 0, .int .i64 k, .int .i64 n, .slice a ws.length c]] w fun e w' => e = .returned (.agg #[.int .i64 0, .int .i64 0, .slice none 0 0, .bool false, .bool false, .int .i64 13]) ∧ Did p room v w L left w' := by
  obtain ⟨W, hW, hb, hz, hX, hR, hT⟩ := do_boxes w 0 k n a ws.length c
  have HX := Lib.hid (And.intro hb (And.intro hz (And.intro (h.later hb) (And.intro h (And.intro hR hT)))))
  have x0 := cell_of_row _ _ 0 _ _ _ hX
  have x1 := cell_of_row _ _ 1 _ _ _ hX
  have x2 := cell_of_row _ _ 2 _ _ _ hX
  have x3 := cell_of_row _ _ 3 _ _ _ hX
  have HW := Lib.hid (And.intro hm hr)
  clear hm hr
  clear h hb hz hX hR hT
  go_enter Try.func11, Try.ntmps11
  go_wp2_with fail
  rw [← hW]
  clear hW
  refine (push_out p left room v L k n a ws.length c W HX.out.2.2.1 HW.out.1 HW.out.2).mono ?_
  rintro e w1 ⟨rfl, hd⟩
  clear x0 x1 x2 x3
  have hz := HX.out.2.1
  have hp := HX.out.2.2.2.1.lp
  have hl := HX.out.2.2.2.1.fs.lt
  have hDB : DidB p room v w W.heap.size L left w1 := DidB.of_did HX.out.2.2.2.1 HX.out.1 hd (fun x hx => Or.inl hx)
  obtain ⟨v1, -, htn, -⟩ := hd
  have far : ∀ b, w.heap.size ≤ b → b < W.heap.size → w1.heap[b]? = W.heap[b]? := fun b h1 h2 => htn.block b h2 (by omega) (fun e => by have := hl b e.symm; omega)
  have r1 := (far (w.heap.size + 1) (by omega) (by omega)).trans HX.out.2.2.2.2.1
  have r2 := (far (w.heap.size + 2) (by omega) (by omega)).trans HX.out.2.2.2.2.2
  have HDB := Lib.hid hDB
  clear hDB far hz hp hl
  have t0 := cell_of_row _ _ 0 _ _ _ r2
  have t1 := cell_of_row _ _ 1 _ _ _ r2
  have t2 := cell_of_row _ _ 2 _ _ _ r2
  have t3 := cell_of_row _ _ 3 _ _ _ r2
  have t4 := cell_of_row _ _ 4 _ _ _ r2
  have t5 := cell_of_row _ _ 5 _ _ _ r2
  have u0 := cell_of_row _ _ 0 _ _ _ r1
  have u1 := cell_of_row _ _ 1 _ _ _ r1
  have u2 := cell_of_row _ _ 2 _ _ _ r1
  have u3 := cell_of_row _ _ 3 _ _ _ r1
  have u4 := cell_of_row _ _ 4 _ _ _ r1
  have u5 := cell_of_row _ _ 5 _ _ _ r1
  have ft0 := frozen_of_row _ _ 0 _ _ r2
  have ft1 := frozen_of_row _ _ 1 _ _ r2
  have ft2 := frozen_of_row _ _ 2 _ _ r2
  have ft3 := frozen_of_row _ _ 3 _ _ r2
  have ft4 := frozen_of_row _ _ 4 _ _ r2
  have ft5 := frozen_of_row _ _ 5 _ _ r2
  have fu0 := frozen_of_row _ _ 0 _ _ r1
  have fu1 := frozen_of_row _ _ 1 _ _ r1
  have fu2 := frozen_of_row _ _ 2 _ _ r1
  have fu3 := frozen_of_row _ _ 3 _ _ r1
  have fu4 := frozen_of_row _ _ 4 _ _ r1
  have fu5 := frozen_of_row _ _ 5 _ _ r1
  clear r1 r2
  go_wp2_with fail
  obtain ⟨Z, hZ, z0, z1, z2, z3, z4, z5⟩ := six_cells (W := (w1.setCell ⟨w.heap.size + 1 + 1, 5, none⟩ (.int .i64 13))) (b := w.heap.size + 1) (.int .i64 0) (.int .i64 0) (.slice none 0 0) (.bool false) (.bool false) (.int .i64 13) (by rw [World.cell?_setCell_other _ _ _ _ (by simp)]; exact u0) (by rw [World.cell?_setCell_other _ _ _ _ (by simp)]; exact u1) (by rw [World.cell?_setCell_other _ _ _ _ (by simp)]; exact u2) (by rw [World.cell?_setCell_other _ _ _ _ (by simp)]; exact u3) (by rw [World.cell?_setCell_other _ _ _ _ (by simp)]; exact u4) (by rw [World.cell?_setCell_other _ _ _ _ (by simp)]; exact u5)
  have HZ : Hid (DidB p room v w W.heap.size (L) left Z) := by
    have hz := HX.out.2.1
    have hp := HX.out.2.2.2.1.lp
    have hl := HX.out.2.2.2.1.fs.lt
    rw [hZ]
    exact ((HDB.out.box hp hl (by omega) (by omega) _)).six hp hl (by omega) (by omega) _ _ _ _ _ _
  rw [← hZ]
  refine bodyPost_ret (v := .agg #[.int .i64 0, .int .i64 0, .slice none 0 0, .bool false, .bool false, .int .i64 13]) (by simp [results, Try.results11, go_sem, z0, z1, z2, z3, z4, z5]) rfl ⟨rfl, HZ.out.did (by have := HX.out.2.1; omega)⟩

set_option maxHeartbeats 8000000 in
theorem do_pop_none (p left : Nat) (room : Int) (v : Value) (k n : Int) (a : Option Addr) (c : Nat) (ws : List Int) (w : World) (h : St w p room v [] left)  :
    Calls Try.prog 11 #[.pointer (some ⟨p, 0, none⟩), .agg #[.int .i64 1, .int .i64 k, .int .i64 n, .slice a ws.length c]] w fun e w' => e = .returned (.agg #[.int .i64 0, .int .i64 0, .slice none 0 0, .bool false, .bool false, .int .i64 0]) ∧ Did p room v w [] left w' := by
  obtain ⟨W, hW, hb, hz, hX, hR, hT⟩ := do_boxes w 1 k n a ws.length c
  have HX := Lib.hid (And.intro hb (And.intro hz (And.intro (h.later hb) (And.intro h (And.intro hR hT)))))
  have x0 := cell_of_row _ _ 0 _ _ _ hX
  have x1 := cell_of_row _ _ 1 _ _ _ hX
  have x2 := cell_of_row _ _ 2 _ _ _ hX
  have x3 := cell_of_row _ _ 3 _ _ _ hX
  clear h hb hz hX hR hT
  go_enter Try.func11, Try.ntmps11
  go_wp2_with fail
  rw [← hW]
  clear hW
  refine (pop_none p left room v W HX.out.2.2.1).mono ?_
  rintro e w1 ⟨rfl, hb1⟩
  clear x0 x1 x2 x3
  have hz := HX.out.2.1
  have hp := HX.out.2.2.2.1.lp
  have hl := HX.out.2.2.2.1.fs.lt
  have hDB : DidB p room v w W.heap.size [] left w1 := DidB.of_did HX.out.2.2.2.1 HX.out.1 (Did.of HX.out.2.2.1 hb1) (fun x hx => Or.inl hx)
  have far : ∀ b, w.heap.size ≤ b → b < W.heap.size → w1.heap[b]? = W.heap[b]? := fun b h1 h2 => hb1.block b h2
  have r1 := (far (w.heap.size + 1) (by omega) (by omega)).trans HX.out.2.2.2.2.1
  have r2 := (far (w.heap.size + 2) (by omega) (by omega)).trans HX.out.2.2.2.2.2
  have HDB := Lib.hid hDB
  clear hDB far hz hp hl
  have t0 := cell_of_row _ _ 0 _ _ _ r2
  have t1 := cell_of_row _ _ 1 _ _ _ r2
  have t2 := cell_of_row _ _ 2 _ _ _ r2
  have t3 := cell_of_row _ _ 3 _ _ _ r2
  have t4 := cell_of_row _ _ 4 _ _ _ r2
  have t5 := cell_of_row _ _ 5 _ _ _ r2
  have u0 := cell_of_row _ _ 0 _ _ _ r1
  have u1 := cell_of_row _ _ 1 _ _ _ r1
  have u2 := cell_of_row _ _ 2 _ _ _ r1
  have u3 := cell_of_row _ _ 3 _ _ _ r1
  have u4 := cell_of_row _ _ 4 _ _ _ r1
  have u5 := cell_of_row _ _ 5 _ _ _ r1
  have ft0 := frozen_of_row _ _ 0 _ _ r2
  have ft1 := frozen_of_row _ _ 1 _ _ r2
  have ft2 := frozen_of_row _ _ 2 _ _ r2
  have ft3 := frozen_of_row _ _ 3 _ _ r2
  have ft4 := frozen_of_row _ _ 4 _ _ r2
  have ft5 := frozen_of_row _ _ 5 _ _ r2
  have fu0 := frozen_of_row _ _ 0 _ _ r1
  have fu1 := frozen_of_row _ _ 1 _ _ r1
  have fu2 := frozen_of_row _ _ 2 _ _ r1
  have fu3 := frozen_of_row _ _ 3 _ _ r1
  have fu4 := frozen_of_row _ _ 4 _ _ r1
  have fu5 := frozen_of_row _ _ 5 _ _ r1
  clear r1 r2
  go_wp2_with fail
  obtain ⟨Z, hZ, z0, z1, z2, z3, z4, z5⟩ := six_cells (W := (((((w1.setCell ⟨w.heap.size + 1 + 1, 0, none⟩ (.int .i64 0)).setCell ⟨w.heap.size + 1 + 1, 1, none⟩ (.int .i64 0)).setCell ⟨w.heap.size + 1 + 1, 2, none⟩ (.slice none 0 0)).setCell ⟨w.heap.size + 1 + 1, 3, none⟩ (.bool false)).setCell ⟨w.heap.size + 1 + 1, 4, none⟩ (.bool false))) (b := w.heap.size + 1) (.int .i64 0) (.int .i64 0) (.slice none 0 0) (.bool false) (.bool false) (.int .i64 0) (by rw [World.cell?_setCell_other _ _ _ _ (by simp), World.cell?_setCell_other _ _ _ _ (by simp), World.cell?_setCell_other _ _ _ _ (by simp), World.cell?_setCell_other _ _ _ _ (by simp), World.cell?_setCell_other _ _ _ _ (by simp)]; exact u0) (by rw [World.cell?_setCell_other _ _ _ _ (by simp), World.cell?_setCell_other _ _ _ _ (by simp), World.cell?_setCell_other _ _ _ _ (by simp), World.cell?_setCell_other _ _ _ _ (by simp), World.cell?_setCell_other _ _ _ _ (by simp)]; exact u1) (by rw [World.cell?_setCell_other _ _ _ _ (by simp), World.cell?_setCell_other _ _ _ _ (by simp), World.cell?_setCell_other _ _ _ _ (by simp), World.cell?_setCell_other _ _ _ _ (by simp), World.cell?_setCell_other _ _ _ _ (by simp)]; exact u2) (by rw [World.cell?_setCell_other _ _ _ _ (by simp), World.cell?_setCell_other _ _ _ _ (by simp), World.cell?_setCell_other _ _ _ _ (by simp), World.cell?_setCell_other _ _ _ _ (by simp), World.cell?_setCell_other _ _ _ _ (by simp)]; exact u3) (by rw [World.cell?_setCell_other _ _ _ _ (by simp), World.cell?_setCell_other _ _ _ _ (by simp), World.cell?_setCell_other _ _ _ _ (by simp), World.cell?_setCell_other _ _ _ _ (by simp), World.cell?_setCell_other _ _ _ _ (by simp)]; exact u4) (by rw [World.cell?_setCell_other _ _ _ _ (by simp), World.cell?_setCell_other _ _ _ _ (by simp), World.cell?_setCell_other _ _ _ _ (by simp), World.cell?_setCell_other _ _ _ _ (by simp), World.cell?_setCell_other _ _ _ _ (by simp)]; exact u5)
  have HZ : Hid (DidB p room v w W.heap.size ([]) left Z) := by
    have hz := HX.out.2.1
    have hp := HX.out.2.2.2.1.lp
    have hl := HX.out.2.2.2.1.fs.lt
    rw [hZ]
    exact ((((((HDB.out.box hp hl (by omega) (by omega) _).box hp hl (by omega) (by omega) _).box hp hl (by omega) (by omega) _).box hp hl (by omega) (by omega) _).box hp hl (by omega) (by omega) _)).six hp hl (by omega) (by omega) _ _ _ _ _ _
  rw [← hZ]
  refine bodyPost_ret (v := .agg #[.int .i64 0, .int .i64 0, .slice none 0 0, .bool false, .bool false, .int .i64 0]) (by simp [results, Try.results11, go_sem, z0, z1, z2, z3, z4, z5]) rfl ⟨rfl, HZ.out.did (by have := HX.out.2.1; omega)⟩

set_option maxHeartbeats 8000000 in
theorem do_top_none (p left : Nat) (room : Int) (v : Value) (k n : Int) (a : Option Addr) (c : Nat) (ws : List Int) (w : World) (h : St w p room v [] left)  :
    Calls Try.prog 11 #[.pointer (some ⟨p, 0, none⟩), .agg #[.int .i64 2, .int .i64 k, .int .i64 n, .slice a ws.length c]] w fun e w' => e = .returned (.agg #[.int .i64 0, .int .i64 0, .slice none 0 0, .bool false, .bool false, .int .i64 0]) ∧ Did p room v w [] left w' := by
  obtain ⟨W, hW, hb, hz, hX, hR, hT⟩ := do_boxes w 2 k n a ws.length c
  have HX := Lib.hid (And.intro hb (And.intro hz (And.intro (h.later hb) (And.intro h (And.intro hR hT)))))
  have x0 := cell_of_row _ _ 0 _ _ _ hX
  have x1 := cell_of_row _ _ 1 _ _ _ hX
  have x2 := cell_of_row _ _ 2 _ _ _ hX
  have x3 := cell_of_row _ _ 3 _ _ _ hX
  clear h hb hz hX hR hT
  go_enter Try.func11, Try.ntmps11
  go_wp2_with fail
  rw [← hW]
  clear hW
  refine (top_none p left room v W HX.out.2.2.1).mono ?_
  rintro e w1 ⟨rfl, hb1⟩
  clear x0 x1 x2 x3
  have hz := HX.out.2.1
  have hp := HX.out.2.2.2.1.lp
  have hl := HX.out.2.2.2.1.fs.lt
  have hDB : DidB p room v w W.heap.size [] left w1 := DidB.of_did HX.out.2.2.2.1 HX.out.1 (Did.of HX.out.2.2.1 hb1) (fun x hx => Or.inl hx)
  have far : ∀ b, w.heap.size ≤ b → b < W.heap.size → w1.heap[b]? = W.heap[b]? := fun b h1 h2 => hb1.block b h2
  have r1 := (far (w.heap.size + 1) (by omega) (by omega)).trans HX.out.2.2.2.2.1
  have r2 := (far (w.heap.size + 2) (by omega) (by omega)).trans HX.out.2.2.2.2.2
  have HDB := Lib.hid hDB
  clear hDB far hz hp hl
  have t0 := cell_of_row _ _ 0 _ _ _ r2
  have t1 := cell_of_row _ _ 1 _ _ _ r2
  have t2 := cell_of_row _ _ 2 _ _ _ r2
  have t3 := cell_of_row _ _ 3 _ _ _ r2
  have t4 := cell_of_row _ _ 4 _ _ _ r2
  have t5 := cell_of_row _ _ 5 _ _ _ r2
  have u0 := cell_of_row _ _ 0 _ _ _ r1
  have u1 := cell_of_row _ _ 1 _ _ _ r1
  have u2 := cell_of_row _ _ 2 _ _ _ r1
  have u3 := cell_of_row _ _ 3 _ _ _ r1
  have u4 := cell_of_row _ _ 4 _ _ _ r1
  have u5 := cell_of_row _ _ 5 _ _ _ r1
  have ft0 := frozen_of_row _ _ 0 _ _ r2
  have ft1 := frozen_of_row _ _ 1 _ _ r2
  have ft2 := frozen_of_row _ _ 2 _ _ r2
  have ft3 := frozen_of_row _ _ 3 _ _ r2
  have ft4 := frozen_of_row _ _ 4 _ _ r2
  have ft5 := frozen_of_row _ _ 5 _ _ r2
  have fu0 := frozen_of_row _ _ 0 _ _ r1
  have fu1 := frozen_of_row _ _ 1 _ _ r1
  have fu2 := frozen_of_row _ _ 2 _ _ r1
  have fu3 := frozen_of_row _ _ 3 _ _ r1
  have fu4 := frozen_of_row _ _ 4 _ _ r1
  have fu5 := frozen_of_row _ _ 5 _ _ r1
  clear r1 r2
  go_wp2_with fail
  obtain ⟨Z, hZ, z0, z1, z2, z3, z4, z5⟩ := six_cells (W := ((((w1.setCell ⟨w.heap.size + 1 + 1, 0, none⟩ (.int .i64 0)).setCell ⟨w.heap.size + 1 + 1, 1, none⟩ (.int .i64 0)).setCell ⟨w.heap.size + 1 + 1, 2, none⟩ (.slice none 0 0)).setCell ⟨w.heap.size + 1 + 1, 4, none⟩ (.bool false))) (b := w.heap.size + 1) (.int .i64 0) (.int .i64 0) (.slice none 0 0) (.bool false) (.bool false) (.int .i64 0) (by rw [World.cell?_setCell_other _ _ _ _ (by simp), World.cell?_setCell_other _ _ _ _ (by simp), World.cell?_setCell_other _ _ _ _ (by simp), World.cell?_setCell_other _ _ _ _ (by simp)]; exact u0) (by rw [World.cell?_setCell_other _ _ _ _ (by simp), World.cell?_setCell_other _ _ _ _ (by simp), World.cell?_setCell_other _ _ _ _ (by simp), World.cell?_setCell_other _ _ _ _ (by simp)]; exact u1) (by rw [World.cell?_setCell_other _ _ _ _ (by simp), World.cell?_setCell_other _ _ _ _ (by simp), World.cell?_setCell_other _ _ _ _ (by simp), World.cell?_setCell_other _ _ _ _ (by simp)]; exact u2) (by rw [World.cell?_setCell_other _ _ _ _ (by simp), World.cell?_setCell_other _ _ _ _ (by simp), World.cell?_setCell_other _ _ _ _ (by simp), World.cell?_setCell_other _ _ _ _ (by simp)]; exact u3) (by rw [World.cell?_setCell_other _ _ _ _ (by simp), World.cell?_setCell_other _ _ _ _ (by simp), World.cell?_setCell_other _ _ _ _ (by simp), World.cell?_setCell_other _ _ _ _ (by simp)]; exact u4) (by rw [World.cell?_setCell_other _ _ _ _ (by simp), World.cell?_setCell_other _ _ _ _ (by simp), World.cell?_setCell_other _ _ _ _ (by simp), World.cell?_setCell_other _ _ _ _ (by simp)]; exact u5)
  have HZ : Hid (DidB p room v w W.heap.size ([]) left Z) := by
    have hz := HX.out.2.1
    have hp := HX.out.2.2.2.1.lp
    have hl := HX.out.2.2.2.1.fs.lt
    rw [hZ]
    exact (((((HDB.out.box hp hl (by omega) (by omega) _).box hp hl (by omega) (by omega) _).box hp hl (by omega) (by omega) _).box hp hl (by omega) (by omega) _)).six hp hl (by omega) (by omega) _ _ _ _ _ _
  rw [← hZ]
  refine bodyPost_ret (v := .agg #[.int .i64 0, .int .i64 0, .slice none 0 0, .bool false, .bool false, .int .i64 0]) (by simp [results, Try.results11, go_sem, z0, z1, z2, z3, z4, z5]) rfl ⟨rfl, HZ.out.did (by have := HX.out.2.1; omega)⟩

set_option maxHeartbeats 8000000 in
theorem do_scan_none (p : Nat) (room : Int) (v : Value) (L : List Fr) (X k n : Int) (a : Option Addr) (c : Nat) (ws : List Int) (w : World) (h : St w p room v L 0) (hx0 : ¬ X = 0) (hx1 : ¬ X = 1) (hx2 : ¬ X = 2) (hx3 : ¬ X = 3) :
    Calls Try.prog 11 #[.pointer (some ⟨p, 0, none⟩), .agg #[.int .i64 X, .int .i64 k, .int .i64 n, .slice a ws.length c]] w fun e w' => e = .returned (.agg #[.int .i64 0, .int .i64 0, .slice none 0 0, .bool false, .bool false, .int .i64 0]) ∧ Did p room v w L 0 w' := by
  obtain ⟨W, hW, hb, hz, hX, hR, hT⟩ := do_boxes w X k n a ws.length c
  have HX := Lib.hid (And.intro hb (And.intro hz (And.intro (h.later hb) (And.intro h (And.intro hR hT)))))
  have x0 := cell_of_row _ _ 0 _ _ _ hX
  have x1 := cell_of_row _ _ 1 _ _ _ hX
  have x2 := cell_of_row _ _ 2 _ _ _ hX
  have x3 := cell_of_row _ _ 3 _ _ _ hX
  clear h hb hz hX hR hT
  go_enter Try.func11, Try.ntmps11
  go_wp2_with fail
  rw [← hW]
  clear hW
  refine (scan_none p room v L W HX.out.2.2.1).mono ?_
  rintro e w1 ⟨rfl, hb1⟩
  clear x0 x1 x2 x3
  have hz := HX.out.2.1
  have hp := HX.out.2.2.2.1.lp
  have hl := HX.out.2.2.2.1.fs.lt
  have hDB : DidB p room v w W.heap.size L 0 w1 := DidB.of_did HX.out.2.2.2.1 HX.out.1 (Did.of HX.out.2.2.1 hb1) (fun x hx => Or.inl hx)
  have far : ∀ b, w.heap.size ≤ b → b < W.heap.size → w1.heap[b]? = W.heap[b]? := fun b h1 h2 => hb1.block b h2
  have r1 := (far (w.heap.size + 1) (by omega) (by omega)).trans HX.out.2.2.2.2.1
  have r2 := (far (w.heap.size + 2) (by omega) (by omega)).trans HX.out.2.2.2.2.2
  have HDB := Lib.hid hDB
  clear hDB far hz hp hl
  have t0 := cell_of_row _ _ 0 _ _ _ r2
  have t1 := cell_of_row _ _ 1 _ _ _ r2
  have t2 := cell_of_row _ _ 2 _ _ _ r2
  have t3 := cell_of_row _ _ 3 _ _ _ r2
  have t4 := cell_of_row _ _ 4 _ _ _ r2
  have t5 := cell_of_row _ _ 5 _ _ _ r2
  have u0 := cell_of_row _ _ 0 _ _ _ r1
  have u1 := cell_of_row _ _ 1 _ _ _ r1
  have u2 := cell_of_row _ _ 2 _ _ _ r1
  have u3 := cell_of_row _ _ 3 _ _ _ r1
  have u4 := cell_of_row _ _ 4 _ _ _ r1
  have u5 := cell_of_row _ _ 5 _ _ _ r1
  have ft0 := frozen_of_row _ _ 0 _ _ r2
  have ft1 := frozen_of_row _ _ 1 _ _ r2
  have ft2 := frozen_of_row _ _ 2 _ _ r2
  have ft3 := frozen_of_row _ _ 3 _ _ r2
  have ft4 := frozen_of_row _ _ 4 _ _ r2
  have ft5 := frozen_of_row _ _ 5 _ _ r2
  have fu0 := frozen_of_row _ _ 0 _ _ r1
  have fu1 := frozen_of_row _ _ 1 _ _ r1
  have fu2 := frozen_of_row _ _ 2 _ _ r1
  have fu3 := frozen_of_row _ _ 3 _ _ r1
  have fu4 := frozen_of_row _ _ 4 _ _ r1
  have fu5 := frozen_of_row _ _ 5 _ _ r1
  clear r1 r2
  go_wp2_with fail
  obtain ⟨Z, hZ, z0, z1, z2, z3, z4, z5⟩ := six_cells (W := ((((w1.setCell ⟨w.heap.size + 1 + 1, 0, none⟩ (.int .i64 0)).setCell ⟨w.heap.size + 1 + 1, 1, none⟩ (.int .i64 0)).setCell ⟨w.heap.size + 1 + 1, 2, none⟩ (.slice none 0 0)).setCell ⟨w.heap.size + 1 + 1, 4, none⟩ (.bool false))) (b := w.heap.size + 1) (.int .i64 0) (.int .i64 0) (.slice none 0 0) (.bool false) (.bool false) (.int .i64 0) (by rw [World.cell?_setCell_other _ _ _ _ (by simp), World.cell?_setCell_other _ _ _ _ (by simp), World.cell?_setCell_other _ _ _ _ (by simp), World.cell?_setCell_other _ _ _ _ (by simp)]; exact u0) (by rw [World.cell?_setCell_other _ _ _ _ (by simp), World.cell?_setCell_other _ _ _ _ (by simp), World.cell?_setCell_other _ _ _ _ (by simp), World.cell?_setCell_other _ _ _ _ (by simp)]; exact u1) (by rw [World.cell?_setCell_other _ _ _ _ (by simp), World.cell?_setCell_other _ _ _ _ (by simp), World.cell?_setCell_other _ _ _ _ (by simp), World.cell?_setCell_other _ _ _ _ (by simp)]; exact u2) (by rw [World.cell?_setCell_other _ _ _ _ (by simp), World.cell?_setCell_other _ _ _ _ (by simp), World.cell?_setCell_other _ _ _ _ (by simp), World.cell?_setCell_other _ _ _ _ (by simp)]; exact u3) (by rw [World.cell?_setCell_other _ _ _ _ (by simp), World.cell?_setCell_other _ _ _ _ (by simp), World.cell?_setCell_other _ _ _ _ (by simp), World.cell?_setCell_other _ _ _ _ (by simp)]; exact u4) (by rw [World.cell?_setCell_other _ _ _ _ (by simp), World.cell?_setCell_other _ _ _ _ (by simp), World.cell?_setCell_other _ _ _ _ (by simp), World.cell?_setCell_other _ _ _ _ (by simp)]; exact u5)
  have HZ : Hid (DidB p room v w W.heap.size (L) 0 Z) := by
    have hz := HX.out.2.1
    have hp := HX.out.2.2.2.1.lp
    have hl := HX.out.2.2.2.1.fs.lt
    rw [hZ]
    exact (((((HDB.out.box hp hl (by omega) (by omega) _).box hp hl (by omega) (by omega) _).box hp hl (by omega) (by omega) _).box hp hl (by omega) (by omega) _)).six hp hl (by omega) (by omega) _ _ _ _ _ _
  rw [← hZ]
  refine bodyPost_ret (v := .agg #[.int .i64 0, .int .i64 0, .slice none 0 0, .bool false, .bool false, .int .i64 0]) (by simp [results, Try.results11, go_sem, z0, z1, z2, z3, z4, z5]) rfl ⟨rfl, HZ.out.did (by have := HX.out.2.1; omega)⟩

theorem WAt.poke {W : World} {f : Fr} {g b : Nat} (h : WAt (fun x => x = g) W f) (hb : g ≠ b) (i : Nat) (u : Value) : WAt (fun x => x = g) (W.setCell ⟨b, i, none⟩ u) f :=
  h.move (fun x _ hk => ⟨hk, Below.heap_setCell _ _ _ _ (by show x ≠ b; omega)⟩) (by simp [World.setCell])

set_option maxHeartbeats 8000000 in
theorem do_pop_some (p left : Nat) (room : Int) (v : Value) (M : List Fr) (f : Fr) (k n : Int) (a : Option Addr) (c : Nat) (ws : List Int) (w : World) (h : St w p room v (M ++ [f]) left)  :
    Calls Try.prog 11 #[.pointer (some ⟨p, 0, none⟩), .agg #[.int .i64 1, .int .i64 k, .int .i64 n, .slice a ws.length c]] w fun e w' => ∃ g5, e = .returned (.agg #[.int .i64 f.k, .int .i64 f.n, .slice (some ⟨g5, 0, none⟩) f.ws.length f.ws.length, .bool (decide (M.length < left)), .bool true, .int .i64 0]) ∧ WAt (fun x => x = g5) w' ⟨f.k, f.n, f.ws, some ⟨g5, 0, none⟩, f.ws.length⟩ ∧ Did p room v w (M) ((min left M.length)) w' := by
  obtain ⟨W, hW, hb, hz, hX, hR, hT⟩ := do_boxes w 1 k n a ws.length c
  have HX := Lib.hid (And.intro hb (And.intro hz (And.intro (h.later hb) (And.intro h (And.intro hR hT)))))
  have x0 := cell_of_row _ _ 0 _ _ _ hX
  have x1 := cell_of_row _ _ 1 _ _ _ hX
  have x2 := cell_of_row _ _ 2 _ _ _ hX
  have x3 := cell_of_row _ _ 3 _ _ _ hX
  obtain ⟨fresh, hfr⟩ : ∃ b, b = decide (M.length < left) := ⟨_, rfl⟩
  rw [← hfr]
  have HFR := Lib.hid hfr
  clear hfr
  clear h hb hz hX hR hT
  go_enter Try.func11, Try.ntmps11
  go_wp2_with fail
  rw [← hW]
  clear hW
  refine (pop_some p left room v M f W HX.out.2.2.1).mono ?_
  rintro e w1 ⟨u, rfl, ⟨g5, rfl, hg2, hg3, hg4, -⟩, hk⟩
  clear x0 x1 x2 x3
  have hz := HX.out.2.1
  have hp := HX.out.2.2.2.1.lp
  have hl := HX.out.2.2.2.1.fs.lt
  rw [← HFR.out]
  have hDB : DidB p room v w W.heap.size (M) (min left M.length) w1 := DidB.of_kept HX.out.2.2.2.1 HX.out.1 hk (fun x hx => List.mem_append.2 (Or.inl hx))
  obtain ⟨v1, -, htn, -, -⟩ := hk
  have HGV := Lib.hid (And.intro hg2 hg3)
  clear hg2 hg3 hg4
  have far : ∀ b, w.heap.size ≤ b → b < W.heap.size → w1.heap[b]? = W.heap[b]? := fun b h1 h2 => htn.block b h2 (by omega) (fun e => by have := hl b e.symm; omega)
  have r1 := (far (w.heap.size + 1) (by omega) (by omega)).trans HX.out.2.2.2.2.1
  have r2 := (far (w.heap.size + 2) (by omega) (by omega)).trans HX.out.2.2.2.2.2
  have HDB := Lib.hid hDB
  clear hDB far hz hp hl
  have t0 := cell_of_row _ _ 0 _ _ _ r2
  have t1 := cell_of_row _ _ 1 _ _ _ r2
  have t2 := cell_of_row _ _ 2 _ _ _ r2
  have t3 := cell_of_row _ _ 3 _ _ _ r2
  have t4 := cell_of_row _ _ 4 _ _ _ r2
  have t5 := cell_of_row _ _ 5 _ _ _ r2
  have u0 := cell_of_row _ _ 0 _ _ _ r1
  have u1 := cell_of_row _ _ 1 _ _ _ r1
  have u2 := cell_of_row _ _ 2 _ _ _ r1
  have u3 := cell_of_row _ _ 3 _ _ _ r1
  have u4 := cell_of_row _ _ 4 _ _ _ r1
  have u5 := cell_of_row _ _ 5 _ _ _ r1
  have ft0 := frozen_of_row _ _ 0 _ _ r2
  have ft1 := frozen_of_row _ _ 1 _ _ r2
  have ft2 := frozen_of_row _ _ 2 _ _ r2
  have ft3 := frozen_of_row _ _ 3 _ _ r2
  have ft4 := frozen_of_row _ _ 4 _ _ r2
  have ft5 := frozen_of_row _ _ 5 _ _ r2
  have fu0 := frozen_of_row _ _ 0 _ _ r1
  have fu1 := frozen_of_row _ _ 1 _ _ r1
  have fu2 := frozen_of_row _ _ 2 _ _ r1
  have fu3 := frozen_of_row _ _ 3 _ _ r1
  have fu4 := frozen_of_row _ _ 4 _ _ r1
  have fu5 := frozen_of_row _ _ 5 _ _ r1
  clear r1 r2
  go_wp2_with fail
  obtain ⟨Z, hZ, z0, z1, z2, z3, z4, z5⟩ := six_cells (W := (((((w1.setCell ⟨w.heap.size + 1 + 1, 0, none⟩ (.int .i64 f.k)).setCell ⟨w.heap.size + 1 + 1, 1, none⟩ (.int .i64 f.n)).setCell ⟨w.heap.size + 1 + 1, 2, none⟩ (.slice (some ⟨g5, 0, none⟩) f.ws.length f.ws.length)).setCell ⟨w.heap.size + 1 + 1, 3, none⟩ (.bool fresh)).setCell ⟨w.heap.size + 1 + 1, 4, none⟩ (.bool true))) (b := w.heap.size + 1) (.int .i64 f.k) (.int .i64 f.n) (.slice (some ⟨g5, 0, none⟩) f.ws.length f.ws.length) (.bool fresh) (.bool true) (.int .i64 0) (by rw [World.cell?_setCell_other _ _ _ _ (by simp), World.cell?_setCell_other _ _ _ _ (by simp), World.cell?_setCell_other _ _ _ _ (by simp), World.cell?_setCell_other _ _ _ _ (by simp), World.cell?_setCell_other _ _ _ _ (by simp)]; exact u0) (by rw [World.cell?_setCell_other _ _ _ _ (by simp), World.cell?_setCell_other _ _ _ _ (by simp), World.cell?_setCell_other _ _ _ _ (by simp), World.cell?_setCell_other _ _ _ _ (by simp), World.cell?_setCell_other _ _ _ _ (by simp)]; exact u1) (by rw [World.cell?_setCell_other _ _ _ _ (by simp), World.cell?_setCell_other _ _ _ _ (by simp), World.cell?_setCell_other _ _ _ _ (by simp), World.cell?_setCell_other _ _ _ _ (by simp), World.cell?_setCell_other _ _ _ _ (by simp)]; exact u2) (by rw [World.cell?_setCell_other _ _ _ _ (by simp), World.cell?_setCell_other _ _ _ _ (by simp), World.cell?_setCell_other _ _ _ _ (by simp), World.cell?_setCell_other _ _ _ _ (by simp), World.cell?_setCell_other _ _ _ _ (by simp)]; exact u3) (by rw [World.cell?_setCell_other _ _ _ _ (by simp), World.cell?_setCell_other _ _ _ _ (by simp), World.cell?_setCell_other _ _ _ _ (by simp), World.cell?_setCell_other _ _ _ _ (by simp), World.cell?_setCell_other _ _ _ _ (by simp)]; exact u4) (by rw [World.cell?_setCell_other _ _ _ _ (by simp), World.cell?_setCell_other _ _ _ _ (by simp), World.cell?_setCell_other _ _ _ _ (by simp), World.cell?_setCell_other _ _ _ _ (by simp), World.cell?_setCell_other _ _ _ _ (by simp)]; exact u5)
  have HZ : Hid (DidB p room v w W.heap.size (M) (min left M.length) Z) := by
    have hz := HX.out.2.1
    have hp := HX.out.2.2.2.1.lp
    have hl := HX.out.2.2.2.1.fs.lt
    rw [hZ]
    exact ((((((HDB.out.box hp hl (by omega) (by omega) _).box hp hl (by omega) (by omega) _).box hp hl (by omega) (by omega) _).box hp hl (by omega) (by omega) _).box hp hl (by omega) (by omega) _)).six hp hl (by omega) (by omega) _ _ _ _ _ _
  have HG5 : Hid (WAt (fun x => x = g5) Z ⟨f.k, f.n, f.ws, some ⟨g5, 0, none⟩, f.ws.length⟩) := by
    rw [hZ]
    have hz := HX.out.2.1
    have hg := HGV.out.2
    exact (((((((((((HGV.out.1.poke (by omega) _ _).poke (by omega) _ _).poke (by omega) _ _).poke (by omega) _ _).poke (by omega) _ _).poke (by omega) _ _).poke (by omega) _ _).poke (by omega) _ _).poke (by omega) _ _).poke (by omega) _ _).poke (by omega) _ _)
  rw [← hZ]
  refine bodyPost_ret (v := .agg #[.int .i64 f.k, .int .i64 f.n, .slice (some ⟨g5, 0, none⟩) f.ws.length f.ws.length, .bool fresh, .bool true, .int .i64 0]) (by simp [results, Try.results11, go_sem, z0, z1, z2, z3, z4, z5]) rfl ⟨g5, rfl, HG5.out, HZ.out.did (by have := HX.out.2.1; omega)⟩

set_option maxHeartbeats 8000000 in
theorem do_top_some (p left : Nat) (room : Int) (v : Value) (L : List Fr) (f : Fr) (j : Nat) (k n : Int) (a : Option Addr) (c : Nat) (ws : List Int) (w : World) (h : St w p room v L left) (hj : L[j]? = some f) (hjl : L.length = j + 1) :
    Calls Try.prog 11 #[.pointer (some ⟨p, 0, none⟩), .agg #[.int .i64 2, .int .i64 k, .int .i64 n, .slice a ws.length c]] w fun e w' => ∃ g5, e = .returned (.agg #[.int .i64 f.k, .int .i64 f.n, .slice (some ⟨g5, 0, none⟩) f.ws.length f.ws.length, .bool false, .bool true, .int .i64 0]) ∧ WAt (fun x => x = g5) w' ⟨f.k, f.n, f.ws, some ⟨g5, 0, none⟩, f.ws.length⟩ ∧ Did p room v w (L) (left) w' := by
  obtain ⟨W, hW, hb, hz, hX, hR, hT⟩ := do_boxes w 2 k n a ws.length c
  have HX := Lib.hid (And.intro hb (And.intro hz (And.intro (h.later hb) (And.intro h (And.intro hR hT)))))
  have x0 := cell_of_row _ _ 0 _ _ _ hX
  have x1 := cell_of_row _ _ 1 _ _ _ hX
  have x2 := cell_of_row _ _ 2 _ _ _ hX
  have x3 := cell_of_row _ _ 3 _ _ _ hX
  have HJ := Lib.hid (And.intro hj hjl)
  clear hj hjl
  clear h hb hz hX hR hT
  go_enter Try.func11, Try.ntmps11
  go_wp2_with fail
  rw [← hW]
  clear hW
  refine (top_some p left j room v L f W HX.out.2.2.1 HJ.out.1 HJ.out.2).mono ?_
  rintro e w1 ⟨u, rfl, ⟨g5, rfl, hg2, hg3, hg4, -⟩, hk⟩
  clear x0 x1 x2 x3
  have hz := HX.out.2.1
  have hp := HX.out.2.2.2.1.lp
  have hl := HX.out.2.2.2.1.fs.lt
  have hDB : DidB p room v w W.heap.size (L) left w1 := DidB.of_kept HX.out.2.2.2.1 HX.out.1 hk (fun x hx => hx)
  obtain ⟨v1, -, htn, -, -⟩ := hk
  have HGV := Lib.hid (And.intro hg2 hg3)
  clear hg2 hg3 hg4
  have far : ∀ b, w.heap.size ≤ b → b < W.heap.size → w1.heap[b]? = W.heap[b]? := fun b h1 h2 => htn.block b h2 (by omega) (fun e => by have := hl b e.symm; omega)
  have r1 := (far (w.heap.size + 1) (by omega) (by omega)).trans HX.out.2.2.2.2.1
  have r2 := (far (w.heap.size + 2) (by omega) (by omega)).trans HX.out.2.2.2.2.2
  have HDB := Lib.hid hDB
  clear hDB far hz hp hl
  have t0 := cell_of_row _ _ 0 _ _ _ r2
  have t1 := cell_of_row _ _ 1 _ _ _ r2
  have t2 := cell_of_row _ _ 2 _ _ _ r2
  have t3 := cell_of_row _ _ 3 _ _ _ r2
  have t4 := cell_of_row _ _ 4 _ _ _ r2
  have t5 := cell_of_row _ _ 5 _ _ _ r2
  have u0 := cell_of_row _ _ 0 _ _ _ r1
  have u1 := cell_of_row _ _ 1 _ _ _ r1
  have u2 := cell_of_row _ _ 2 _ _ _ r1
  have u3 := cell_of_row _ _ 3 _ _ _ r1
  have u4 := cell_of_row _ _ 4 _ _ _ r1
  have u5 := cell_of_row _ _ 5 _ _ _ r1
  have ft0 := frozen_of_row _ _ 0 _ _ r2
  have ft1 := frozen_of_row _ _ 1 _ _ r2
  have ft2 := frozen_of_row _ _ 2 _ _ r2
  have ft3 := frozen_of_row _ _ 3 _ _ r2
  have ft4 := frozen_of_row _ _ 4 _ _ r2
  have ft5 := frozen_of_row _ _ 5 _ _ r2
  have fu0 := frozen_of_row _ _ 0 _ _ r1
  have fu1 := frozen_of_row _ _ 1 _ _ r1
  have fu2 := frozen_of_row _ _ 2 _ _ r1
  have fu3 := frozen_of_row _ _ 3 _ _ r1
  have fu4 := frozen_of_row _ _ 4 _ _ r1
  have fu5 := frozen_of_row _ _ 5 _ _ r1
  clear r1 r2
  go_wp2_with fail
  obtain ⟨Z, hZ, z0, z1, z2, z3, z4, z5⟩ := six_cells (W := ((((w1.setCell ⟨w.heap.size + 1 + 1, 0, none⟩ (.int .i64 f.k)).setCell ⟨w.heap.size + 1 + 1, 1, none⟩ (.int .i64 f.n)).setCell ⟨w.heap.size + 1 + 1, 2, none⟩ (.slice (some ⟨g5, 0, none⟩) f.ws.length f.ws.length)).setCell ⟨w.heap.size + 1 + 1, 4, none⟩ (.bool true))) (b := w.heap.size + 1) (.int .i64 f.k) (.int .i64 f.n) (.slice (some ⟨g5, 0, none⟩) f.ws.length f.ws.length) (.bool false) (.bool true) (.int .i64 0) (by rw [World.cell?_setCell_other _ _ _ _ (by simp), World.cell?_setCell_other _ _ _ _ (by simp), World.cell?_setCell_other _ _ _ _ (by simp), World.cell?_setCell_other _ _ _ _ (by simp)]; exact u0) (by rw [World.cell?_setCell_other _ _ _ _ (by simp), World.cell?_setCell_other _ _ _ _ (by simp), World.cell?_setCell_other _ _ _ _ (by simp), World.cell?_setCell_other _ _ _ _ (by simp)]; exact u1) (by rw [World.cell?_setCell_other _ _ _ _ (by simp), World.cell?_setCell_other _ _ _ _ (by simp), World.cell?_setCell_other _ _ _ _ (by simp), World.cell?_setCell_other _ _ _ _ (by simp)]; exact u2) (by rw [World.cell?_setCell_other _ _ _ _ (by simp), World.cell?_setCell_other _ _ _ _ (by simp), World.cell?_setCell_other _ _ _ _ (by simp), World.cell?_setCell_other _ _ _ _ (by simp)]; exact u3) (by rw [World.cell?_setCell_other _ _ _ _ (by simp), World.cell?_setCell_other _ _ _ _ (by simp), World.cell?_setCell_other _ _ _ _ (by simp), World.cell?_setCell_other _ _ _ _ (by simp)]; exact u4) (by rw [World.cell?_setCell_other _ _ _ _ (by simp), World.cell?_setCell_other _ _ _ _ (by simp), World.cell?_setCell_other _ _ _ _ (by simp), World.cell?_setCell_other _ _ _ _ (by simp)]; exact u5)
  have HZ : Hid (DidB p room v w W.heap.size (L) left Z) := by
    have hz := HX.out.2.1
    have hp := HX.out.2.2.2.1.lp
    have hl := HX.out.2.2.2.1.fs.lt
    rw [hZ]
    exact (((((HDB.out.box hp hl (by omega) (by omega) _).box hp hl (by omega) (by omega) _).box hp hl (by omega) (by omega) _).box hp hl (by omega) (by omega) _)).six hp hl (by omega) (by omega) _ _ _ _ _ _
  have HG5 : Hid (WAt (fun x => x = g5) Z ⟨f.k, f.n, f.ws, some ⟨g5, 0, none⟩, f.ws.length⟩) := by
    rw [hZ]
    have hz := HX.out.2.1
    have hg := HGV.out.2
    exact ((((((((((HGV.out.1.poke (by omega) _ _).poke (by omega) _ _).poke (by omega) _ _).poke (by omega) _ _).poke (by omega) _ _).poke (by omega) _ _).poke (by omega) _ _).poke (by omega) _ _).poke (by omega) _ _).poke (by omega) _ _)
  rw [← hZ]
  refine bodyPost_ret (v := .agg #[.int .i64 f.k, .int .i64 f.n, .slice (some ⟨g5, 0, none⟩) f.ws.length f.ws.length, .bool false, .bool true, .int .i64 0]) (by simp [results, Try.results11, go_sem, z0, z1, z2, z3, z4, z5]) rfl ⟨g5, rfl, HG5.out, HZ.out.did (by have := HX.out.2.1; omega)⟩

set_option maxHeartbeats 8000000 in
theorem do_scan_some (p : Nat) (room : Int) (v : Value) (L : List Fr) (f : Fr) (j : Nat) (X k n : Int) (a : Option Addr) (c : Nat) (ws : List Int) (w : World) (h : St w p room v L (j + 1)) (hx0 : ¬ X = 0) (hx1 : ¬ X = 1) (hx2 : ¬ X = 2) (hx3 : ¬ X = 3) (hj : L[j]? = some f) :
    Calls Try.prog 11 #[.pointer (some ⟨p, 0, none⟩), .agg #[.int .i64 X, .int .i64 k, .int .i64 n, .slice a ws.length c]] w fun e w' => ∃ g5, e = .returned (.agg #[.int .i64 f.k, .int .i64 f.n, .slice (some ⟨g5, 0, none⟩) f.ws.length f.ws.length, .bool false, .bool true, .int .i64 0]) ∧ WAt (fun x => x = g5) w' ⟨f.k, f.n, f.ws, some ⟨g5, 0, none⟩, f.ws.length⟩ ∧ Did p room v w (L) (j) w' := by
  obtain ⟨W, hW, hb, hz, hX, hR, hT⟩ := do_boxes w X k n a ws.length c
  have HX := Lib.hid (And.intro hb (And.intro hz (And.intro (h.later hb) (And.intro h (And.intro hR hT)))))
  have x0 := cell_of_row _ _ 0 _ _ _ hX
  have x1 := cell_of_row _ _ 1 _ _ _ hX
  have x2 := cell_of_row _ _ 2 _ _ _ hX
  have x3 := cell_of_row _ _ 3 _ _ _ hX
  have HJ := Lib.hid hj
  clear hj
  clear h hb hz hX hR hT
  go_enter Try.func11, Try.ntmps11
  go_wp2_with fail
  rw [← hW]
  clear hW
  refine (scan_some p j room v L f W HX.out.2.2.1 HJ.out).mono ?_
  rintro e w1 ⟨u, rfl, ⟨g5, rfl, hg2, hg3, hg4, -⟩, hk⟩
  clear x0 x1 x2 x3
  have hz := HX.out.2.1
  have hp := HX.out.2.2.2.1.lp
  have hl := HX.out.2.2.2.1.fs.lt
  have hDB : DidB p room v w W.heap.size (L) j w1 := DidB.of_kept HX.out.2.2.2.1 HX.out.1 hk (fun x hx => hx)
  obtain ⟨v1, -, htn, -, -⟩ := hk
  have HGV := Lib.hid (And.intro hg2 hg3)
  clear hg2 hg3 hg4
  have far : ∀ b, w.heap.size ≤ b → b < W.heap.size → w1.heap[b]? = W.heap[b]? := fun b h1 h2 => htn.block b h2 (by omega) (fun e => by have := hl b e.symm; omega)
  have r1 := (far (w.heap.size + 1) (by omega) (by omega)).trans HX.out.2.2.2.2.1
  have r2 := (far (w.heap.size + 2) (by omega) (by omega)).trans HX.out.2.2.2.2.2
  have HDB := Lib.hid hDB
  clear hDB far hz hp hl
  have t0 := cell_of_row _ _ 0 _ _ _ r2
  have t1 := cell_of_row _ _ 1 _ _ _ r2
  have t2 := cell_of_row _ _ 2 _ _ _ r2
  have t3 := cell_of_row _ _ 3 _ _ _ r2
  have t4 := cell_of_row _ _ 4 _ _ _ r2
  have t5 := cell_of_row _ _ 5 _ _ _ r2
  have u0 := cell_of_row _ _ 0 _ _ _ r1
  have u1 := cell_of_row _ _ 1 _ _ _ r1
  have u2 := cell_of_row _ _ 2 _ _ _ r1
  have u3 := cell_of_row _ _ 3 _ _ _ r1
  have u4 := cell_of_row _ _ 4 _ _ _ r1
  have u5 := cell_of_row _ _ 5 _ _ _ r1
  have ft0 := frozen_of_row _ _ 0 _ _ r2
  have ft1 := frozen_of_row _ _ 1 _ _ r2
  have ft2 := frozen_of_row _ _ 2 _ _ r2
  have ft3 := frozen_of_row _ _ 3 _ _ r2
  have ft4 := frozen_of_row _ _ 4 _ _ r2
  have ft5 := frozen_of_row _ _ 5 _ _ r2
  have fu0 := frozen_of_row _ _ 0 _ _ r1
  have fu1 := frozen_of_row _ _ 1 _ _ r1
  have fu2 := frozen_of_row _ _ 2 _ _ r1
  have fu3 := frozen_of_row _ _ 3 _ _ r1
  have fu4 := frozen_of_row _ _ 4 _ _ r1
  have fu5 := frozen_of_row _ _ 5 _ _ r1
  clear r1 r2
  go_wp2_with fail
  obtain ⟨Z, hZ, z0, z1, z2, z3, z4, z5⟩ := six_cells (W := ((((w1.setCell ⟨w.heap.size + 1 + 1, 0, none⟩ (.int .i64 f.k)).setCell ⟨w.heap.size + 1 + 1, 1, none⟩ (.int .i64 f.n)).setCell ⟨w.heap.size + 1 + 1, 2, none⟩ (.slice (some ⟨g5, 0, none⟩) f.ws.length f.ws.length)).setCell ⟨w.heap.size + 1 + 1, 4, none⟩ (.bool true))) (b := w.heap.size + 1) (.int .i64 f.k) (.int .i64 f.n) (.slice (some ⟨g5, 0, none⟩) f.ws.length f.ws.length) (.bool false) (.bool true) (.int .i64 0) (by rw [World.cell?_setCell_other _ _ _ _ (by simp), World.cell?_setCell_other _ _ _ _ (by simp), World.cell?_setCell_other _ _ _ _ (by simp), World.cell?_setCell_other _ _ _ _ (by simp)]; exact u0) (by rw [World.cell?_setCell_other _ _ _ _ (by simp), World.cell?_setCell_other _ _ _ _ (by simp), World.cell?_setCell_other _ _ _ _ (by simp), World.cell?_setCell_other _ _ _ _ (by simp)]; exact u1) (by rw [World.cell?_setCell_other _ _ _ _ (by simp), World.cell?_setCell_other _ _ _ _ (by simp), World.cell?_setCell_other _ _ _ _ (by simp), World.cell?_setCell_other _ _ _ _ (by simp)]; exact u2) (by rw [World.cell?_setCell_other _ _ _ _ (by simp), World.cell?_setCell_other _ _ _ _ (by simp), World.cell?_setCell_other _ _ _ _ (by simp), World.cell?_setCell_other _ _ _ _ (by simp)]; exact u3) (by rw [World.cell?_setCell_other _ _ _ _ (by simp), World.cell?_setCell_other _ _ _ _ (by simp), World.cell?_setCell_other _ _ _ _ (by simp), World.cell?_setCell_other _ _ _ _ (by simp)]; exact u4) (by rw [World.cell?_setCell_other _ _ _ _ (by simp), World.cell?_setCell_other _ _ _ _ (by simp), World.cell?_setCell_other _ _ _ _ (by simp), World.cell?_setCell_other _ _ _ _ (by simp)]; exact u5)
  have HZ : Hid (DidB p room v w W.heap.size (L) j Z) := by
    have hz := HX.out.2.1
    have hp := HX.out.2.2.2.1.lp
    have hl := HX.out.2.2.2.1.fs.lt
    rw [hZ]
    exact (((((HDB.out.box hp hl (by omega) (by omega) _).box hp hl (by omega) (by omega) _).box hp hl (by omega) (by omega) _).box hp hl (by omega) (by omega) _)).six hp hl (by omega) (by omega) _ _ _ _ _ _
  have HG5 : Hid (WAt (fun x => x = g5) Z ⟨f.k, f.n, f.ws, some ⟨g5, 0, none⟩, f.ws.length⟩) := by
    rw [hZ]
    have hz := HX.out.2.1
    have hg := HGV.out.2
    exact ((((((((((HGV.out.1.poke (by omega) _ _).poke (by omega) _ _).poke (by omega) _ _).poke (by omega) _ _).poke (by omega) _ _).poke (by omega) _ _).poke (by omega) _ _).poke (by omega) _ _).poke (by omega) _ _).poke (by omega) _ _)
  rw [← hZ]
  refine bodyPost_ret (v := .agg #[.int .i64 f.k, .int .i64 f.n, .slice (some ⟨g5, 0, none⟩) f.ws.length f.ws.length, .bool false, .bool true, .int .i64 0]) (by simp [results, Try.results11, go_sem, z0, z1, z2, z3, z4, z5]) rfl ⟨g5, rfl, HG5.out, HZ.out.did (by have := HX.out.2.1; omega)⟩

set_option maxHeartbeats 8000000 in
theorem do_begin (p left : Nat) (room : Int) (v : Value) (L : List Fr) (k n : Int) (a : Option Addr) (c : Nat) (ws : List Int) (w : World) (h : St w p room v L left)  :
    Calls Try.prog 11 #[.pointer (some ⟨p, 0, none⟩), .agg #[.int .i64 3, .int .i64 k, .int .i64 n, .slice a ws.length c]] w fun e w' => e = .returned (.agg #[.int .i64 0, .int .i64 0, .slice none 0 0, .bool false, .bool false, .int .i64 0]) ∧ Did p room v w L L.length w' := by
  obtain ⟨W, hW, hb, hz, hX, hR, hT⟩ := do_boxes w 3 k n a ws.length c
  have HX := Lib.hid (And.intro hb (And.intro hz (And.intro (h.later hb) (And.intro h (And.intro hR hT)))))
  have x0 := cell_of_row _ _ 0 _ _ _ hX
  have x1 := cell_of_row _ _ 1 _ _ _ hX
  have x2 := cell_of_row _ _ 2 _ _ _ hX
  have x3 := cell_of_row _ _ 3 _ _ _ hX
  clear h hb hz hX hR hT
  go_enter Try.func11, Try.ntmps11
  go_wp2_with fail
  rw [← hW]
  clear hW
  refine (begin_any p left room v L W HX.out.2.2.1).mono ?_
  rintro e w1 ⟨rfl, hk⟩
  clear x0 x1 x2 x3
  have hz := HX.out.2.1
  have hp := HX.out.2.2.2.1.lp
  have hl := HX.out.2.2.2.1.fs.lt
  have hDB : DidB p room v w W.heap.size (L) L.length w1 := DidB.of_kept HX.out.2.2.2.1 HX.out.1 hk (fun x hx => hx)
  obtain ⟨v1, -, htn, -, -⟩ := hk
  have far : ∀ b, w.heap.size ≤ b → b < W.heap.size → w1.heap[b]? = W.heap[b]? := fun b h1 h2 => htn.block b h2 (by omega) (fun e => by have := hl b e.symm; omega)
  have r1 := (far (w.heap.size + 1) (by omega) (by omega)).trans HX.out.2.2.2.2.1
  have r2 := (far (w.heap.size + 2) (by omega) (by omega)).trans HX.out.2.2.2.2.2
  have HDB := Lib.hid hDB
  clear hDB far hz hp hl
  have t0 := cell_of_row _ _ 0 _ _ _ r2
  have t1 := cell_of_row _ _ 1 _ _ _ r2
  have t2 := cell_of_row _ _ 2 _ _ _ r2
  have t3 := cell_of_row _ _ 3 _ _ _ r2
  have t4 := cell_of_row _ _ 4 _ _ _ r2
  have t5 := cell_of_row _ _ 5 _ _ _ r2
  have u0 := cell_of_row _ _ 0 _ _ _ r1
  have u1 := cell_of_row _ _ 1 _ _ _ r1
  have u2 := cell_of_row _ _ 2 _ _ _ r1
  have u3 := cell_of_row _ _ 3 _ _ _ r1
  have u4 := cell_of_row _ _ 4 _ _ _ r1
  have u5 := cell_of_row _ _ 5 _ _ _ r1
  have ft0 := frozen_of_row _ _ 0 _ _ r2
  have ft1 := frozen_of_row _ _ 1 _ _ r2
  have ft2 := frozen_of_row _ _ 2 _ _ r2
  have ft3 := frozen_of_row _ _ 3 _ _ r2
  have ft4 := frozen_of_row _ _ 4 _ _ r2
  have ft5 := frozen_of_row _ _ 5 _ _ r2
  have fu0 := frozen_of_row _ _ 0 _ _ r1
  have fu1 := frozen_of_row _ _ 1 _ _ r1
  have fu2 := frozen_of_row _ _ 2 _ _ r1
  have fu3 := frozen_of_row _ _ 3 _ _ r1
  have fu4 := frozen_of_row _ _ 4 _ _ r1
  have fu5 := frozen_of_row _ _ 5 _ _ r1
  clear r1 r2
  go_wp2_with fail
  obtain ⟨Z, hZ, z0, z1, z2, z3, z4, z5⟩ := six_cells (W := w1) (b := w.heap.size + 1) (.int .i64 0) (.int .i64 0) (.slice none 0 0) (.bool false) (.bool false) (.int .i64 0) (by exact u0) (by exact u1) (by exact u2) (by exact u3) (by exact u4) (by exact u5)
  have HZ : Hid (DidB p room v w W.heap.size (L) L.length Z) := by
    have hz := HX.out.2.1
    have hp := HX.out.2.2.2.1.lp
    have hl := HX.out.2.2.2.1.fs.lt
    rw [hZ]
    exact (HDB.out).six hp hl (by omega) (by omega) _ _ _ _ _ _
  rw [← hZ]
  refine bodyPost_ret (v := .agg #[.int .i64 0, .int .i64 0, .slice none 0 0, .bool false, .bool false, .int .i64 0]) (by simp [results, Try.results11, go_sem, z0, z1, z2, z3, z4, z5]) rfl ⟨rfl, HZ.out.did (by have := HX.out.2.1; omega)⟩

end Go.Proofs.Ytalfhcmccdnajaa
