/- The stack as it lies: New, Len, Used, Left, Begin, Push. -/
import Derived.Test.YtalfhcmccdnajaaSkB
namespace Go.Proofs.Ytalfhcmccdnajaa
open Go.RowKit

def used : List Fr → Int
  | [] => 0
  | f :: r => (f.ws.length : Int) + 2 + used r
theorem used_append (A : List Fr) (f : Fr) : used (A ++ [f]) = used A + ((f.ws.length : Int) + 2) := by
  induction A with
  | nil => simp [used]
  | cons x r ih => simp only [List.cons_append, used, ih]; omega
theorem used_len (A : List Fr) : 2 * (A.length : Int) ≤ used A := by
  induction A with
  | nil => simp [used]
  | cons x r ih => simp only [List.length_cons, used]; omega

theorem used_mem {A : List Fr} {f : Fr} (h : f ∈ A) : (f.ws.length : Int) + 2 ≤ used A := by
  induction A with
  | nil => cases h
  | cons x r ih =>
    have h1 := used_len r
    simp only [used]
    rcases List.mem_cons.1 h with rfl | h
    · omega
    · have := ih h
      omega

/-- THE STACK AS IT LIES. -/
structure St (W : World) (p : Nat) (room : Int) (v : Value) (L : List Fr) (left : Nat) : Prop where
  c0 : W.cell? ⟨p, 0, none⟩ = some (.int .i64 room)
  c1 : W.cell? ⟨p, 1, none⟩ = some (.int .i64 (used L))
  c2 : W.cell? ⟨p, 2, none⟩ = some v
  c3 : W.cell? ⟨p, 3, none⟩ = some (.int .i64 left)
  z1 : W.frozen? ⟨p, 1, none⟩ = false
  z2 : W.frozen? ⟨p, 2, none⟩ = false
  z3 : W.frozen? ⟨p, 3, none⟩ = false
  fs : FsAt W v L
  ne : v.ownBlock ≠ some p
  ws : ∀ f, f ∈ L → WAt (fun g => g ≠ p ∧ some g ≠ v.ownBlock) W f
  le : left ≤ L.length
  r0 : 0 ≤ room
  r1 : room ≤ 4096
  us : used L ≤ room
/-- What has turned: the stack's own, and nothing else. -/
structure Turn (p : Nat) (v : Value) (W W' : World) : Prop where
  os : W'.os = W.os
  tape : W'.tape = W.tape
  output : W'.output = W.output
  size : W.heap.size ≤ W'.heap.size
  block : ∀ k, k < W.heap.size → k ≠ p → some k ≠ v.ownBlock → W'.heap[k]? = W.heap[k]?
section
variable {W W' W'' : World} {p left : Nat} {room : Int} {v v' : Value} {L : List Fr}
theorem St.lp (h : St W p room v L left) : p < W.heap.size := World.block_lt_of_cell? _ _ h.c0
theorem St.small (h : St W p room v L left) : L.length ≤ 2048 := by
  have := used_len L
  have := h.us
  have := h.r1
  omega
theorem St.move (h : St W p room v L left) (hp : W'.heap[p]? = W.heap[p]?) (hv : ∀ g, v.ownBlock = some g → W'.heap[g]? = W.heap[g]?) (hw : ∀ g, g < W.heap.size → g ≠ p → some g ≠ v.ownBlock → W'.heap[g]? = W.heap[g]?) (hs : W.heap.size ≤ W'.heap.size) : St W' p room v L left :=
  ⟨(World.cell?_of_block (w := W) hp).trans h.c0, (World.cell?_of_block (w := W) hp).trans h.c1, (World.cell?_of_block (w := W) hp).trans h.c2, (World.cell?_of_block (w := W) hp).trans h.c3,
    (World.frozen?_of_block (w := W) hp).trans h.z1, (World.frozen?_of_block (w := W) hp).trans h.z2, (World.frozen?_of_block (w := W) hp).trans h.z3, h.fs.move hv, h.ne, fun f hf => (h.ws f hf).move (fun g hg hk => ⟨hk, hw g hg hk.1 hk.2⟩) hs, h.le, h.r0, h.r1, h.us⟩
theorem St.later (h : St W p room v L left) (hb : Below W.heap.size W W') : St W' p room v L left :=
  h.move (hb.block p h.lp) (fun g hg => hb.block g (h.fs.lt g hg)) (fun g hg _ _ => hb.block g hg) hb.size
theorem St.drew (h : St W p room v L left) : St W.drew p room v L left := h.later (Below.refl _ _).drew
theorem Turn.refl : Turn p v W W := ⟨rfl, rfl, rfl, Nat.le_refl _, fun _ _ _ _ => rfl⟩
theorem Turn.of (hb : Below W.heap.size W W') : Turn p v W W' := ⟨hb.os, hb.tape, hb.output, hb.size, fun k hk _ _ => hb.block k hk⟩
theorem Turn.trans (h : Turn p v W W') (k : Turn p v' W' W'') (hv : ∀ g, v'.ownBlock = some g → v.ownBlock = some g ∨ W.heap.size ≤ g) : Turn p v W W'' :=
  ⟨k.os.trans h.os, k.tape.trans h.tape, k.output.trans h.output, Nat.le_trans h.size k.size, fun i hi h1 h2 => (k.block i (Nat.lt_of_lt_of_le hi h.size) h1 (fun e => by rcases hv i e.symm with h' | h' <;> first | exact h2 h'.symm | omega)).trans (h.block i hi h1 h2)⟩
theorem Turn.then (h : Turn p v W W') (k : Below W'.heap.size W' W'') : Turn p v W W'' :=
  ⟨k.os.trans h.os, k.tape.trans h.tape, k.output.trans h.output, Nat.le_trans h.size k.size, fun i hi h1 h2 => (k.block i (Nat.lt_of_lt_of_le hi h.size)).trans (h.block i hi h1 h2)⟩
theorem Turn.below (h : Turn p v W W') {B : Nat} (hp : B ≤ p) (hv : ∀ g, v.ownBlock = some g → B ≤ g) (hB : B ≤ W.heap.size) : Below B W W' :=
  ⟨h.os, h.tape, h.output, h.size, fun k hk => h.block k (by omega) (by omega) (fun e => by have := hv k e.symm; omega)⟩
end
/-- What a call leaves. -/
def Did (p : Nat) (room : Int) (v : Value) (W : World) (L : List Fr) (left : Nat) (W' : World) : Prop :=
  ∃ v', St W' p room v' L left ∧ Turn p v W W' ∧ ∀ g, v'.ownBlock = some g → v.ownBlock = some g ∨ W.heap.size ≤ g
theorem Did.of {p left : Nat} {room : Int} {v : Value} {W W' : World} {L : List Fr} (h : St W p room v L left) (hb : Below W.heap.size W W') : Did p room v W L left W' :=
  ⟨v, h.later hb, Turn.of hb, fun _ hg => Or.inl hg⟩

set_option maxHeartbeats 1000000 in
theorem new_out (n : Int) (h : ¬ (0 ≤ n ∧ n ≤ 4096)) (w : World) :
    Calls Try.prog 9 #[.int .i64 n] w fun e w' => e = .returned (.tuple #[.pointer none, .int .i64 1]) ∧ w' = w := by
  by_cases g1 : n < 0
  · go_enter Try.func9, Try.ntmps9
    go_wp2
    go_ret2
    exact ⟨rfl, rfl⟩
  · have g2 : n > 4096 := by omega
    clear h
    go_enter Try.func9, Try.ntmps9
    go_wp2
    go_ret2
    exact ⟨rfl, rfl⟩
/-- What a call leaves that makes no block of the stack's. -/
def Kept (p : Nat) (room : Int) (v : Value) (W : World) (L : List Fr) (left : Nat) (W' : World) : Prop :=
  ∃ v', St W' p room v' L left ∧ Turn p v W W' ∧ (∀ g, v'.ownBlock = some g → v.ownBlock = some g) ∧ ∀ f, f ∈ L → WAt (fun g => g < W.heap.size ∧ g ≠ p ∧ some g ≠ v'.ownBlock) W' f
theorem Kept.did {p left : Nat} {room : Int} {v : Value} {W W' : World} {L : List Fr} (h : Kept p room v W L left W') : Did p room v W L left W' := by
  obtain ⟨v', h1, h2, h3, -⟩ := h
  exact ⟨v', h1, h2, fun g hg => Or.inl (h3 g hg)⟩
theorem Kept.of {p left : Nat} {room : Int} {v : Value} {W W' : World} {L : List Fr} (h : St W p room v L left) (hb : Below W.heap.size W W') : Kept p room v W L left W' :=
  ⟨v, h.later hb, Turn.of hb, fun _ hg => hg, fun f hf => (h.ws f hf).move (fun g hg hk => ⟨⟨hg, hk⟩, hb.block g hg⟩) hb.size⟩
/-- A box that is not the stack's, written over. -/
theorem Kept.box {p left b i : Nat} {room : Int} {v : Value} {W W' : World} {L : List Fr} (h : Kept p room v W L left W') (hp : p < W.heap.size) (hv : ∀ g, v.ownBlock = some g → g < W.heap.size) (hb : W.heap.size ≤ b) (u : Value) : Kept p room v W L left (W'.setCell ⟨b, i, none⟩ u) := by
  obtain ⟨v', h1, h2, h3, h4⟩ := h
  have hs := h2.size
  have far : ∀ k, k ≠ b → (W'.setCell ⟨b, i, none⟩ u).heap[k]? = W'.heap[k]? := fun k hk => Below.heap_setCell _ _ _ _ hk
  have hpb : (W'.setCell ⟨b, i, none⟩ u).heap[p]? = W'.heap[p]? := far p (by omega)
  have hz : (W'.setCell ⟨b, i, none⟩ u).heap.size = W'.heap.size := by simp [World.setCell]
  refine ⟨v', ⟨(World.cell?_of_block (w := W') hpb).trans h1.c0, (World.cell?_of_block (w := W') hpb).trans h1.c1, (World.cell?_of_block (w := W') hpb).trans h1.c2, (World.cell?_of_block (w := W') hpb).trans h1.c3, (World.frozen?_of_block (w := W') hpb).trans h1.z1, (World.frozen?_of_block (w := W') hpb).trans h1.z2, (World.frozen?_of_block (w := W') hpb).trans h1.z3, h1.fs.move (fun g hg => far g (by have := hv g (h3 g hg); omega)), h1.ne, fun f hf => (h4 f hf).move (fun g _ hk => ⟨hk.2, far g (by have := hk.1; omega)⟩) (by omega), h1.le, h1.r0, h1.r1, h1.us⟩, ⟨h2.os, h2.tape, h2.output, by omega, fun k hk k1 k2 => (far k (by omega)).trans (h2.block k hk k1 k2)⟩, h3, fun f hf => (h4 f hf).move (fun g _ hk => ⟨hk, far g (by have := hk.1; omega)⟩) (by omega)⟩
theorem Kept.later {p left : Nat} {room : Int} {v : Value} {W W' W'' : World} {L : List Fr} (h : Kept p room v W L left W') (hb : Below W'.heap.size W' W'') : Kept p room v W L left W'' := by
  obtain ⟨v', h1, h2, h3, h4⟩ := h
  exact ⟨v', h1.later hb, h2.then hb, h3, fun f hf => (h4 f hf).move (fun g hg hk => ⟨hk, hb.block g hg⟩) hb.size⟩

def Made (n : Int) (w : World) (e : Ending) (w' : World) : Prop :=
  ∃ p v, e = .returned (.tuple #[.pointer (some ⟨p, 0, none⟩), .int .i64 0]) ∧ St w' p n v [] 0 ∧ Below w.heap.size w w' ∧ w.heap.size ≤ p ∧ v.ownBlock = none
set_option maxHeartbeats 1000000 in
theorem new_in (n : Int) (h0 : 0 ≤ n) (h1 : n ≤ 4096) (w : World) :
    Calls Try.prog 9 #[.int .i64 n] w (Made n w) := by
  have g1 : ¬ n < 0 := by omega
  have g2 : ¬ n > 4096 := by omega
  have hb := (Below.refl w.heap.size w).alloc (Nat.le_refl _) (.cells #[.int .i64 n, .int .i64 0, .slice none 0 0, .int .i64 0] 60)
  have hS : St (w.alloc (.cells #[.int .i64 n, .int .i64 0, .slice none 0 0, .int .i64 0] 60)) w.heap.size n (.slice none 0 0) [] 0 := by
    have hh := heap_alloc_new w (.cells #[.int .i64 n, .int .i64 0, .slice none 0 0, .int .i64 0] 60)
    exact ⟨cell_of_row _ _ 0 _ _ _ hh, cell_of_row _ _ 1 _ _ _ hh, cell_of_row _ _ 2 _ _ _ hh, cell_of_row _ _ 3 _ _ _ hh, frozen_of_row _ _ 1 _ _ hh, frozen_of_row _ _ 2 _ _ hh, frozen_of_row _ _ 3 _ _ hh, Or.inl ⟨rfl, rfl⟩, by simp [Value.ownBlock], fun f hf => by simp at hf, Nat.zero_le _, h0, h1, by simpa [used] using h0⟩
  have HS := Lib.hid (And.intro hS hb)
  clear hS hb
  go_enter Try.func9, Try.ntmps9
  go_wp2
  go_ret2
  exact ⟨_, _, rfl, HS.out.1, HS.out.2, Nat.le_refl _, rfl⟩

section
variable (p left : Nat) (room : Int) (v : Value) (L : List Fr) (w : World)
set_option maxHeartbeats 1000000 in
theorem len_any (h : St w p room v L left) : Calls Try.prog 13 #[.pointer (some ⟨p, 0, none⟩)] w fun e w' => e = .returned (.int .i64 L.length) ∧ w' = w := by
  have h2 := h.c2
  have hs := h.small
  obtain ⟨ao, cap, rfl⟩ := h.fs.sl
  clear h
  go_enter Try.func13, Try.ntmps13
  go_wp2
  go_ret
  exact ⟨rfl, rfl⟩
set_option maxHeartbeats 1000000 in
theorem used_any (h : St w p room v L left) : Calls Try.prog 14 #[.pointer (some ⟨p, 0, none⟩)] w fun e w' => e = .returned (.int .i64 (used L)) ∧ w' = w := by
  have h2 := h.c1
  clear h
  go_enter Try.func14, Try.ntmps14
  go_wp2
  go_ret
  exact ⟨rfl, rfl⟩
set_option maxHeartbeats 1000000 in
theorem left_any (h : St w p room v L left) : Calls Try.prog 16 #[.pointer (some ⟨p, 0, none⟩)] w fun e w' => e = .returned (.int .i64 left) ∧ w' = w := by
  have h2 := h.c3
  clear h
  go_enter Try.func16, Try.ntmps16
  go_wp2
  go_ret
  exact ⟨rfl, rfl⟩
end
section
variable {p left : Nat} {room : Int} {v : Value} {L : List Fr} {w : World}
theorem St.put {W W' : World} {L' : List Fr} {v' : Value} {left' : Nat} (h : St W p room v L left) {i : Nat} {u : Value} (hi : i = 1 ∨ i = 2 ∨ i = 3) (e : W' = W.setCell ⟨p, i, none⟩ u) (hv : v' = v) (hL : L' = L) (e1 : i ≠ 1) (e2 : i ≠ 2) (e3 : u = .int .i64 left') (hl : left' ≤ L'.length) : St W' p room v' L' left' := by
  subst e hv hL e3
  obtain rfl : i = 3 := by omega
  have hfs : ∀ g, v'.ownBlock = some g → (W.setCell ⟨p, 3, none⟩ (.int .i64 left')).heap[g]? = W.heap[g]? := fun g hg => Below.heap_setCell _ _ _ _ (fun e => h.ne (by rw [hg]; exact congrArg some e))
  exact ⟨(World.cell?_setCell_other _ _ _ _ (by simp)).trans h.c0, (World.cell?_setCell_other _ _ _ _ (by simp)).trans h.c1, (World.cell?_setCell_other _ _ _ _ (by simp)).trans h.c2, World.cell?_setCell_same _ _ _ h.c3, (World.frozen?_setCell _ _ _ _).trans h.z1, (World.frozen?_setCell _ _ _ _).trans h.z2, (World.frozen?_setCell _ _ _ _).trans h.z3, h.fs.move hfs, h.ne, fun f hf => (h.ws f hf).move (fun g _ hk => ⟨hk, Below.heap_setCell _ _ _ _ hk.1⟩) (by simp [World.setCell]), hl, h.r0, h.r1, h.us⟩
theorem turn_put {W : World} (i : Nat) (u : Value) : Turn p v W (W.setCell ⟨p, i, none⟩ u) := ⟨rfl, rfl, rfl, by simp [World.setCell], fun _ _ h _ => Below.heap_setCell _ _ _ _ h⟩
end
set_option maxHeartbeats 1000000 in
theorem begin_any (p left : Nat) (room : Int) (v : Value) (L : List Fr) (w : World) (h : St w p room v L left) : Calls Try.prog 21 #[.pointer (some ⟨p, 0, none⟩)] w fun e w' => e = .returned (.tuple #[]) ∧ Kept p room v w L L.length w' := by
  have h2 := h.c2
  have h3 := h.c3
  have z3 := h.z3
  have hs := h.small
  have HD : Hid (Kept p room v w L L.length (w.setCell ⟨p, 3, none⟩ (.int .i64 L.length))) := ⟨v, h.put (i := 3) (by simp) rfl rfl rfl (by simp) (by simp) rfl (Nat.le_refl _), turn_put 3 _, fun _ hg => hg, fun f hf => (h.ws f hf).move (fun g hg hk => ⟨⟨hg, hk⟩, Below.heap_setCell _ _ _ _ hk.1⟩) (by simp [World.setCell])⟩
  obtain ⟨ao, cap, hv⟩ := h.fs.sl
  have HV := Lib.hid hv
  rw [hv] at h2
  clear h hv
  go_enter Try.func21, Try.ntmps21
  go_wp2
  go_end0
  exact ⟨rfl, HD.out⟩

end Go.Proofs.Ytalfhcmccdnajaa
