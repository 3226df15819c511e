import Derived.Lib.ItoaLen
import Derived.Test.YtbnmmbjajheedaaGreatDoorMg2
import Derived.Test.YtbnmmbjajheedaaGreatDoorMg11
namespace Go.Proofs.YtbnmmbjajheedaaGreatDoor
set_option maxHeartbeats 64000000
set_option maxRecDepth 100000
open Go.RowKit Go.Lib
def IDX9 : Nat → Nat
 | 0 => 1 | 1 => 4 | 2 => 5 | 3 => 8 | 4 => 9 | 5 => 13 | 6 => 16 | 7 => 17 | 8 => 21 | n => n + 100
def BASE9 : List Nat := [0, 2, 3, 6, 7, 10, 11, 12, 14, 15, 18, 19, 20]
def D9 : List (List Nat) := [[], [], [], [], [3], [1, 2, 4], [], [], [7, 4], [1, 6, 8], [], [], [11], [1, 10, 12], [], [], [15, 8], [1, 14, 16], [], [], [19], [1, 18, 20], [1, 2, 3, 4, 5, 6, 7, 8, 9, 10, 11, 12, 13, 14, 15, 16, 17, 18, 19, 20, 21], [0, 0, 1, 2, 3, 4, 5, 6, 7, 8, 9, 10, 11, 12, 13, 14, 15, 16, 17, 18, 19, 20, 21, 22], [23, 0, 1, 2, 3, 4, 5, 6, 7, 8, 9, 10, 11, 12, 13, 14, 15, 16, 17, 18, 19, 20, 21, 22], [24, 22, 16, 0, 1, 2, 3, 4, 5, 6, 7, 8, 9, 10, 11, 12, 13, 14, 15, 16, 17, 18, 19, 20, 21, 22]]
def L9 (n : Nat) : Array Bool := LsOf BASE9 9 IDX9 D9.length n
theorem chk9 : chkSome D9 BASE9 9 IDX9 (zeros 9) 511 = true := by decide +kernel
theorem chkR : (List.range 511).all (fun n => (!([1, 2, 4].all (lsOf BASE9 9 IDX9 n)) || (n.testBit 0 && n.testBit 1)) && (!([1, 6, 8].all (lsOf BASE9 9 IDX9 n)) || (n.testBit 0 && n.testBit 3)) && (!([1, 10, 12].all (lsOf BASE9 9 IDX9 n)) || n.testBit 0) && (!([1, 14, 16].all (lsOf BASE9 9 IDX9 n)) || (n.testBit 0 && n.testBit 6)) && (!([1, 18, 20].all (lsOf BASE9 9 IDX9 n)) || n.testBit 0)) = true := by decide +kernel
def tabT (b : Nat) (v1 v2 v3 : Value) : List (Sh × Value) := [(sName, v1), (sCon, v2), (sNum, meth 57 b), (sBack, v3), (sOpen, meth 58 b)]
theorem tab_nodup (b : Nat) (v1 v2 v3 : Value) : ((tabT b v1 v2 v3).map (·.1)).Nodup := by
 show [sName, sCon, sNum, sBack, sOpen].Nodup
 decide
def NamerAt (w : World) (lo b : Nat) (k : Int) (v : Value) : Prop := ∃ gk gr, v = namer gk gr ∧ w.cell? ⟨gk, 0, none⟩ = some (.int .i64 k) ∧ w.cell? ⟨gr, 0, none⟩ = some (.pointer (some ⟨b, 0, none⟩)) ∧ lo ≤ gk ∧ lo ≤ gr
theorem KX.no_cell {w : World} {m : Nat} {es : List (Sh × Value)} (h : KX w m es) (j : Nat) : w.cell? ⟨m, j, none⟩ = none := by
 unfold KX at h
 simp [World.cell?, h]
theorem NamerAt.below {w w' : World} {lo b : Nat} {k : Int} {v : Value} (h : NamerAt w lo b k v) (hb : Below w.heap.size w w') : NamerAt w' lo b k v := by
 obtain ⟨gk, gr, h1, h2, h3, h4⟩ := h
 exact ⟨gk, gr, h1, later' hb h2, later' hb h3, h4⟩
theorem NamerAt.map {w w' : World} {lo b m : Nat} {k : Int} {v : Value} {es : List (Sh × Value)} (h : NamerAt w lo b k v) (hm : KX w m es) (hg : w.grownBy w' (some m)) : NamerAt w' lo b k v := by
 obtain ⟨gk, gr, h1, h2, h3, h4⟩ := h
 refine ⟨gk, gr, h1, hg.cell h2 (fun e => ?_), hg.cell h3 (fun e => ?_), h4⟩
 ·have := Oi e
  simp only at this
  rw [this, hm.no_cell] at h2
  cases h2
 ·have := Oi e
  simp only at this
  rw [this, hm.no_cell] at h3
  cases h3
structure St9 (W : World) (b n : Nat) (F : Value → Value → Value → Value → Act) (a : Act) (w : World) (mm : Nat) (v0 v1 v2 v3 : Value) (es : List (Sh × Value)) : Prop where
 a : a = F v0 v1 v2 v3
 B : Below W.heap.size W w
 u0 : n.testBit 0 = false → v0 = undef ∧ es = []
 k0 : n.testBit 0 = true → v0 = .map (some mm) ∧ W.heap.size ≤ mm ∧ KX w mm es
 u1 : n.testBit 1 = false → v1 = undef ∧ n.testBit 2 = false
 k1 : n.testBit 1 = true → NamerAt w W.heap.size b 1 v1
 u2 : n.testBit 3 = false → v2 = undef ∧ n.testBit 4 = false
 k2 : n.testBit 3 = true → NamerAt w W.heap.size b 2 v2
 u3 : n.testBit 6 = false → v3 = undef ∧ n.testBit 7 = false
 k3 : n.testBit 6 = true → NamerAt w W.heap.size b 5 v3
 sub : ∀ x, x ∈ es → x ∈ tabT b v1 v2 v3
 m0 : (sName, v1) ∈ es ↔ n.testBit 2 = true
 m1 : (sCon, v2) ∈ es ↔ n.testBit 4 = true
 m2 : (sNum, meth 57 b) ∈ es ↔ n.testBit 5 = true
 m3 : (sBack, v3) ∈ es ↔ n.testBit 7 = true
 m4 : (sOpen, meth 58 b) ∈ es ↔ n.testBit 8 = true
theorem below_past {lo m : Nat} {W w w' : World} (h : Below lo W w) (hl : lo ≤ w.heap.size) (hg : w.grownBy w' (some m)) (hm : lo ≤ m) : Below lo W w' :=
 ⟨hg.os.trans h.os, hg.tape.trans h.tape, hg.output.trans h.output, Nt h.size hg.size, fun k hk => (hg.block k (by omega) (by simp; omega)).trans (h.block k hk)⟩
theorem bits9 (n j : Nat) (hn : n < 511) (hj : j < 9) (hb : n.testBit j = false) (i : Nat) (hi : i < 9) : (n + 2 ^ j).testBit i = (n.testBit i || decide (i = j)) := by
 have hq : ∀ n : Fin 511, ∀ j : Fin 9, n.val.testBit j.val = false → ∀ i : Fin 9, (n.val + 2 ^ j.val).testBit i.val = (n.val.testBit i.val || decide (i.val = j.val)) := by decide +kernel
 exact hq ⟨n, hn⟩ ⟨j, hj⟩ hb ⟨i, hi⟩
theorem St9.make {W : World} {b n mm : Nat} {F : Value → Value → Value → Value → Act} {a : Act} {w : World} {v0 v1 v2 v3 : Value} {es : List (Sh × Value)} (h : St9 W b n F a w mm v0 v1 v2 v3 es) (hn : n < 511) (hb : n.testBit 0 = false) :
  St9 W b (n + 2 ^ 0) F (F (.map (some w.heap.size)) v1 v2 v3) (w.alloc (.map #[] 0)) w.heap.size (.map (some w.heap.size)) v1 v2 v3 [] := by
 have e := bits9 n 0 hn (by decide) hb
 have hy := (Below.refl w.heap.size w).alloc Nr (.map #[] 0)
 have hes := (h.u0 hb).2
 obtain ⟨_, hB, _, _, u1, k1, u2, k2, u3, k3, _, m0, m1, m2, m3, m4⟩ := h
 subst hes
 have e0 := e 0 (by decide)
 have e1 := e 1 (by decide)
 have e2 := e 2 (by decide)
 have e3 := e 3 (by decide)
 have e4 := e 4 (by decide)
 have e5 := e 5 (by decide)
 have e6 := e 6 (by decide)
 have e7 := e 7 (by decide)
 have e8 := e 8 (by decide)
 simp at e0 e1 e2 e3 e4 e5 e6 e7 e8
 refine ⟨rfl, onB' hB hy, ?_, ?_, ?_, ?_, ?_, ?_, ?_, ?_, fun x hx => (by cases hx), ?_, ?_, ?_, ?_, ?_⟩
 ·intro q; simp [e0] at q
 ·exact fun _ => ⟨rfl, hB.size, heap_alloc_new w (.map #[] 0)⟩
 ·simpa [e1, e2] using u1
 ·intro q; exact (k1 (by simpa [e1] using q)).below hy
 ·simpa [e3, e4] using u2
 ·intro q; exact (k2 (by simpa [e3] using q)).below hy
 ·simpa [e6, e7] using u3
 ·intro q; exact (k3 (by simpa [e6] using q)).below hy
 ·simpa [e2] using m0
 ·simpa [e4] using m1
 ·simpa [e5] using m2
 ·simpa [e7] using m3
 ·simpa [e8] using m4
theorem St9.call1 {W : World} {b n mm : Nat} {F : Value → Value → Value → Value → Act} {a : Act} {w w' : World} {v0 v1 v2 v3 v : Value} {es : List (Sh × Value)} (h : St9 W b n F a w mm v0 v1 v2 v3 es) (hn : n < 511) (hb : n.testBit 1 = false) (hw : Below w.heap.size w w') (hv : NamerAt w' W.heap.size b 1 v) :
  St9 W b (n + 2 ^ 1) F (F v0 v v2 v3) w' mm v0 v v2 v3 es := by
 have e := bits9 n 1 hn (by decide) hb
 have e0 := e 0 (by decide)
 have e1 := e 1 (by decide)
 have e2 := e 2 (by decide)
 have e3 := e 3 (by decide)
 have e4 := e 4 (by decide)
 have e5 := e 5 (by decide)
 have e6 := e 6 (by decide)
 have e7 := e 7 (by decide)
 have e8 := e 8 (by decide)
 simp at e0 e1 e2 e3 e4 e5 e6 e7 e8
 obtain ⟨_, hB, u0, k0, u1, k1, u2, k2, u3, k3, sub, m0, m1, m2, m3, m4⟩ := h
 obtain ⟨rfl, hz⟩ := u1 hb
 have hv' : v ≠ undef := by obtain ⟨_, _, rfl, _⟩ := hv; exact fun e => by cases e
 have hno : (sName, undef) ∉ es := fun hx => by rw [m0.1 hx] at hz; cases hz
 have hnv : (sName, v) ∉ es := fun hx => by
  have := sub _ hx
  simp [tabT, sName, sCon, sNum, sBack, sOpen, hv'] at this
 refine ⟨rfl, onB' hB hw, ?_, ?_, ?_, ?_, ?_, ?_, ?_, ?_, fun x hx => ?_, ?_, ?_, ?_, ?_, ?_⟩
 ·simpa [e0] using u0
 ·intro q
  obtain ⟨p1, p2, p3⟩ := k0 (by simpa [e0] using q)
  exact ⟨p1, p2, (hw.block mm p3.lt).trans p3⟩
 ·intro q; simp [e1] at q
 ·exact fun _ => hv
 ·simpa [e3, e4] using u2
 ·intro q; exact (k2 (by simpa [e3] using q)).below hw
 ·simpa [e6, e7] using u3
 ·intro q; exact (k3 (by simpa [e6] using q)).below hw
 ·have hm := sub x hx
  simp only [tabT, List.mem_cons, List.not_mem_nil, or_false] at hm ⊢
  rcases hm with h0 | h1 | h2 | h3 | h4
  ·rw [h0] at hx; exact absurd hx hno
  ·simp [h1]
  ·simp [h2]
  ·simp [h3]
  ·simp [h4]
 ·rw [e2, hz]; exact ⟨fun hx => absurd hx hnv, fun hx => by cases hx⟩
 ·rw [e4]; exact m1
 ·rw [e5]; exact m2
 ·rw [e7]; exact m3
 ·rw [e8]; exact m4
theorem St9.call2 {W : World} {b n mm : Nat} {F : Value → Value → Value → Value → Act} {a : Act} {w w' : World} {v0 v1 v2 v3 v : Value} {es : List (Sh × Value)} (h : St9 W b n F a w mm v0 v1 v2 v3 es) (hn : n < 511) (hb : n.testBit 3 = false) (hw : Below w.heap.size w w') (hv : NamerAt w' W.heap.size b 2 v) :
  St9 W b (n + 2 ^ 3) F (F v0 v1 v v3) w' mm v0 v1 v v3 es := by
 have e := bits9 n 3 hn (by decide) hb
 have e0 := e 0 (by decide)
 have e1 := e 1 (by decide)
 have e2 := e 2 (by decide)
 have e3 := e 3 (by decide)
 have e4 := e 4 (by decide)
 have e5 := e 5 (by decide)
 have e6 := e 6 (by decide)
 have e7 := e 7 (by decide)
 have e8 := e 8 (by decide)
 simp at e0 e1 e2 e3 e4 e5 e6 e7 e8
 obtain ⟨_, hB, u0, k0, u1, k1, u2, k2, u3, k3, sub, m0, m1, m2, m3, m4⟩ := h
 obtain ⟨rfl, hz⟩ := u2 hb
 have hv' : v ≠ undef := by obtain ⟨_, _, rfl, _⟩ := hv; exact fun e => by cases e
 have hno : (sCon, undef) ∉ es := fun hx => by rw [m1.1 hx] at hz; cases hz
 have hnv : (sCon, v) ∉ es := fun hx => by
  have := sub _ hx
  simp [tabT, sCon, sName, sNum, sBack, sOpen, hv'] at this
 refine ⟨rfl, onB' hB hw, ?_, ?_, ?_, ?_, ?_, ?_, ?_, ?_, fun x hx => ?_, ?_, ?_, ?_, ?_, ?_⟩
 ·simpa [e0] using u0
 ·intro q
  obtain ⟨p1, p2, p3⟩ := k0 (by simpa [e0] using q)
  exact ⟨p1, p2, (hw.block mm p3.lt).trans p3⟩
 ·simpa [e1, e2] using u1
 ·intro q; exact (k1 (by simpa [e1] using q)).below hw
 ·intro q; simp [e3] at q
 ·exact fun _ => hv
 ·simpa [e6, e7] using u3
 ·intro q; exact (k3 (by simpa [e6] using q)).below hw
 ·have hm := sub x hx
  simp only [tabT, List.mem_cons, List.not_mem_nil, or_false] at hm ⊢
  rcases hm with h0 | h1 | h2 | h3 | h4
  ·simp [h0]
  ·rw [h1] at hx; exact absurd hx hno
  ·simp [h2]
  ·simp [h3]
  ·simp [h4]
 ·rw [e2]; exact m0
 ·rw [e4, hz]; exact ⟨fun hx => absurd hx hnv, fun hx => by cases hx⟩
 ·rw [e5]; exact m2
 ·rw [e7]; exact m3
 ·rw [e8]; exact m4
theorem St9.call3 {W : World} {b n mm : Nat} {F : Value → Value → Value → Value → Act} {a : Act} {w w' : World} {v0 v1 v2 v3 v : Value} {es : List (Sh × Value)} (h : St9 W b n F a w mm v0 v1 v2 v3 es) (hn : n < 511) (hb : n.testBit 6 = false) (hw : Below w.heap.size w w') (hv : NamerAt w' W.heap.size b 5 v) :
  St9 W b (n + 2 ^ 6) F (F v0 v1 v2 v) w' mm v0 v1 v2 v es := by
 have e := bits9 n 6 hn (by decide) hb
 have e0 := e 0 (by decide)
 have e1 := e 1 (by decide)
 have e2 := e 2 (by decide)
 have e3 := e 3 (by decide)
 have e4 := e 4 (by decide)
 have e5 := e 5 (by decide)
 have e6 := e 6 (by decide)
 have e7 := e 7 (by decide)
 have e8 := e 8 (by decide)
 simp at e0 e1 e2 e3 e4 e5 e6 e7 e8
 obtain ⟨_, hB, u0, k0, u1, k1, u2, k2, u3, k3, sub, m0, m1, m2, m3, m4⟩ := h
 obtain ⟨rfl, hz⟩ := u3 hb
 have hv' : v ≠ undef := by obtain ⟨_, _, rfl, _⟩ := hv; exact fun e => by cases e
 have hno : (sBack, undef) ∉ es := fun hx => by rw [m3.1 hx] at hz; cases hz
 have hnv : (sBack, v) ∉ es := fun hx => by
  have := sub _ hx
  simp [tabT, sBack, sName, sCon, sNum, sOpen, hv'] at this
 refine ⟨rfl, onB' hB hw, ?_, ?_, ?_, ?_, ?_, ?_, ?_, ?_, fun x hx => ?_, ?_, ?_, ?_, ?_, ?_⟩
 ·simpa [e0] using u0
 ·intro q
  obtain ⟨p1, p2, p3⟩ := k0 (by simpa [e0] using q)
  exact ⟨p1, p2, (hw.block mm p3.lt).trans p3⟩
 ·simpa [e1, e2] using u1
 ·intro q; exact (k1 (by simpa [e1] using q)).below hw
 ·simpa [e3, e4] using u2
 ·intro q; exact (k2 (by simpa [e3] using q)).below hw
 ·intro q; simp [e6] at q
 ·exact fun _ => hv
 ·have hm := sub x hx
  simp only [tabT, List.mem_cons, List.not_mem_nil, or_false] at hm ⊢
  rcases hm with h0 | h1 | h2 | h3 | h4
  ·simp [h0]
  ·simp [h1]
  ·simp [h2]
  ·rw [h3] at hx; exact absurd hx hno
  ·simp [h4]
 ·rw [e2]; exact m0
 ·rw [e4]; exact m1
 ·rw [e5]; exact m2
 ·rw [e7, hz]; exact ⟨fun hx => absurd hx hnv, fun hx => by cases hx⟩
 ·rw [e8]; exact m4
theorem St9.ins0 {W : World} {b n mm : Nat} {F : Value → Value → Value → Value → Act} {a : Act} {w w' : World} {v0 v1 v2 v3 : Value} {es : List (Sh × Value)} (h : St9 W b n F a w mm v0 v1 v2 v3 es) (hn : n < 511) (hb : n.testBit 2 = false) (h0 : n.testBit 0 = true) (h1 : n.testBit 1 = true) (hw : KX w' mm (es ++ [(sName, v1)])) (hg : w.grownBy w' (some mm)) :
  St9 W b (n + 2 ^ 2) F a w' mm v0 v1 v2 v3 (es ++ [(sName, v1)]) := by
 have e := bits9 n 2 hn (by decide) hb
 have e0 := e 0 (by decide)
 have e1 := e 1 (by decide)
 have e2 := e 2 (by decide)
 have e3 := e 3 (by decide)
 have e4 := e 4 (by decide)
 have e5 := e 5 (by decide)
 have e6 := e 6 (by decide)
 have e7 := e 7 (by decide)
 have e8 := e 8 (by decide)
 simp at e0 e1 e2 e3 e4 e5 e6 e7 e8
 obtain ⟨ha, hB, u0, k0, u1, k1, u2, k2, u3, k3, sub, m0, m1, m2, m3, m4⟩ := h
 obtain ⟨p1, p2, p3⟩ := k0 h0
 refine ⟨ha, below_past hB hB.size hg p2, ?_, ?_, ?_, ?_, ?_, ?_, ?_, ?_, fun x hx => ?_, ?_, ?_, ?_, ?_, ?_⟩
 ·intro q; have e00 := e 0 (by decide); rw [h0] at e00; rw [e00] at q; cases q
 ·exact fun _ => ⟨p1, p2, hw⟩
 ·intro q; simp [e1, h1] at q
 ·intro q; exact (k1 (by simpa [e1] using q)).map p3 hg
 ·simpa [e3, e4] using u2
 ·intro q; exact (k2 (by simpa [e3] using q)).map p3 hg
 ·simpa [e6, e7] using u3
 ·intro q; exact (k3 (by simpa [e6] using q)).map p3 hg
 ·rcases List.mem_append.1 hx with hx | hx
  ·exact sub x hx
  ·rw [List.mem_singleton.1 hx]; simp [tabT]
 ·simp [e2]
 ·rw [e4, ← m1]; simp [sCon, sName]
 ·rw [e5, ← m2]; simp [sNum, sName]
 ·rw [e7, ← m3]; simp [sBack, sName]
 ·rw [e8, ← m4]; simp [sOpen, sName]
theorem St9.ins1 {W : World} {b n mm : Nat} {F : Value → Value → Value → Value → Act} {a : Act} {w w' : World} {v0 v1 v2 v3 : Value} {es : List (Sh × Value)} (h : St9 W b n F a w mm v0 v1 v2 v3 es) (hn : n < 511) (hb : n.testBit 4 = false) (h0 : n.testBit 0 = true) (h1 : n.testBit 3 = true) (hw : KX w' mm (es ++ [(sCon, v2)])) (hg : w.grownBy w' (some mm)) :
  St9 W b (n + 2 ^ 4) F a w' mm v0 v1 v2 v3 (es ++ [(sCon, v2)]) := by
 have e := bits9 n 4 hn (by decide) hb
 have e0 := e 0 (by decide)
 have e1 := e 1 (by decide)
 have e2 := e 2 (by decide)
 have e3 := e 3 (by decide)
 have e4 := e 4 (by decide)
 have e5 := e 5 (by decide)
 have e6 := e 6 (by decide)
 have e7 := e 7 (by decide)
 have e8 := e 8 (by decide)
 simp at e0 e1 e2 e3 e4 e5 e6 e7 e8
 obtain ⟨ha, hB, u0, k0, u1, k1, u2, k2, u3, k3, sub, m0, m1, m2, m3, m4⟩ := h
 obtain ⟨p1, p2, p3⟩ := k0 h0
 refine ⟨ha, below_past hB hB.size hg p2, ?_, ?_, ?_, ?_, ?_, ?_, ?_, ?_, fun x hx => ?_, ?_, ?_, ?_, ?_, ?_⟩
 ·intro q; have e00 := e 0 (by decide); rw [h0] at e00; rw [e00] at q; cases q
 ·exact fun _ => ⟨p1, p2, hw⟩
 ·simpa [e1, e2] using u1
 ·intro q; exact (k1 (by simpa [e1] using q)).map p3 hg
 ·intro q; simp [e3, h1] at q
 ·intro q; exact (k2 (by simpa [e3] using q)).map p3 hg
 ·simpa [e6, e7] using u3
 ·intro q; exact (k3 (by simpa [e6] using q)).map p3 hg
 ·rcases List.mem_append.1 hx with hx | hx
  ·exact sub x hx
  ·rw [List.mem_singleton.1 hx]; simp [tabT]
 ·rw [e2, ← m0]; simp [sName, sCon]
 ·simp [e4]
 ·rw [e5, ← m2]; simp [sNum, sCon]
 ·rw [e7, ← m3]; simp [sBack, sCon]
 ·rw [e8, ← m4]; simp [sOpen, sCon]
theorem St9.ins2 {W : World} {b n mm : Nat} {F : Value → Value → Value → Value → Act} {a : Act} {w w' : World} {v0 v1 v2 v3 : Value} {es : List (Sh × Value)} (h : St9 W b n F a w mm v0 v1 v2 v3 es) (hn : n < 511) (hb : n.testBit 5 = false) (h0 : n.testBit 0 = true) (hw : KX w' mm (es ++ [(sNum, meth 57 b)])) (hg : w.grownBy w' (some mm)) :
  St9 W b (n + 2 ^ 5) F a w' mm v0 v1 v2 v3 (es ++ [(sNum, meth 57 b)]) := by
 have e := bits9 n 5 hn (by decide) hb
 have e0 := e 0 (by decide)
 have e1 := e 1 (by decide)
 have e2 := e 2 (by decide)
 have e3 := e 3 (by decide)
 have e4 := e 4 (by decide)
 have e5 := e 5 (by decide)
 have e6 := e 6 (by decide)
 have e7 := e 7 (by decide)
 have e8 := e 8 (by decide)
 simp at e0 e1 e2 e3 e4 e5 e6 e7 e8
 obtain ⟨ha, hB, u0, k0, u1, k1, u2, k2, u3, k3, sub, m0, m1, m2, m3, m4⟩ := h
 obtain ⟨p1, p2, p3⟩ := k0 h0
 refine ⟨ha, below_past hB hB.size hg p2, ?_, ?_, ?_, ?_, ?_, ?_, ?_, ?_, fun x hx => ?_, ?_, ?_, ?_, ?_, ?_⟩
 ·intro q; have e00 := e 0 (by decide); rw [h0] at e00; rw [e00] at q; cases q
 ·exact fun _ => ⟨p1, p2, hw⟩
 ·simpa [e1, e2] using u1
 ·intro q; exact (k1 (by simpa [e1] using q)).map p3 hg
 ·simpa [e3, e4] using u2
 ·intro q; exact (k2 (by simpa [e3] using q)).map p3 hg
 ·simpa [e6, e7] using u3
 ·intro q; exact (k3 (by simpa [e6] using q)).map p3 hg
 ·rcases List.mem_append.1 hx with hx | hx
  ·exact sub x hx
  ·rw [List.mem_singleton.1 hx]; simp [tabT]
 ·rw [e2, ← m0]; simp [sName, sNum]
 ·rw [e4, ← m1]; simp [sCon, sNum]
 ·simp [e5]
 ·rw [e7, ← m3]; simp [sBack, sNum]
 ·rw [e8, ← m4]; simp [sOpen, sNum]
theorem St9.ins3 {W : World} {b n mm : Nat} {F : Value → Value → Value → Value → Act} {a : Act} {w w' : World} {v0 v1 v2 v3 : Value} {es : List (Sh × Value)} (h : St9 W b n F a w mm v0 v1 v2 v3 es) (hn : n < 511) (hb : n.testBit 7 = false) (h0 : n.testBit 0 = true) (h1 : n.testBit 6 = true) (hw : KX w' mm (es ++ [(sBack, v3)])) (hg : w.grownBy w' (some mm)) :
  St9 W b (n + 2 ^ 7) F a w' mm v0 v1 v2 v3 (es ++ [(sBack, v3)]) := by
 have e := bits9 n 7 hn (by decide) hb
 have e0 := e 0 (by decide)
 have e1 := e 1 (by decide)
 have e2 := e 2 (by decide)
 have e3 := e 3 (by decide)
 have e4 := e 4 (by decide)
 have e5 := e 5 (by decide)
 have e6 := e 6 (by decide)
 have e7 := e 7 (by decide)
 have e8 := e 8 (by decide)
 simp at e0 e1 e2 e3 e4 e5 e6 e7 e8
 obtain ⟨ha, hB, u0, k0, u1, k1, u2, k2, u3, k3, sub, m0, m1, m2, m3, m4⟩ := h
 obtain ⟨p1, p2, p3⟩ := k0 h0
 refine ⟨ha, below_past hB hB.size hg p2, ?_, ?_, ?_, ?_, ?_, ?_, ?_, ?_, fun x hx => ?_, ?_, ?_, ?_, ?_, ?_⟩
 ·intro q; have e00 := e 0 (by decide); rw [h0] at e00; rw [e00] at q; cases q
 ·exact fun _ => ⟨p1, p2, hw⟩
 ·simpa [e1, e2] using u1
 ·intro q; exact (k1 (by simpa [e1] using q)).map p3 hg
 ·simpa [e3, e4] using u2
 ·intro q; exact (k2 (by simpa [e3] using q)).map p3 hg
 ·intro q; simp [e6, h1] at q
 ·intro q; exact (k3 (by simpa [e6] using q)).map p3 hg
 ·rcases List.mem_append.1 hx with hx | hx
  ·exact sub x hx
  ·rw [List.mem_singleton.1 hx]; simp [tabT]
 ·rw [e2, ← m0]; simp [sName, sBack]
 ·rw [e4, ← m1]; simp [sCon, sBack]
 ·rw [e5, ← m2]; simp [sNum, sBack]
 ·simp [e7]
 ·rw [e8, ← m4]; simp [sOpen, sBack]
theorem St9.ins4 {W : World} {b n mm : Nat} {F : Value → Value → Value → Value → Act} {a : Act} {w w' : World} {v0 v1 v2 v3 : Value} {es : List (Sh × Value)} (h : St9 W b n F a w mm v0 v1 v2 v3 es) (hn : n < 511) (hb : n.testBit 8 = false) (h0 : n.testBit 0 = true) (hw : KX w' mm (es ++ [(sOpen, meth 58 b)])) (hg : w.grownBy w' (some mm)) :
  St9 W b (n + 2 ^ 8) F a w' mm v0 v1 v2 v3 (es ++ [(sOpen, meth 58 b)]) := by
 have e := bits9 n 8 hn (by decide) hb
 have e0 := e 0 (by decide)
 have e1 := e 1 (by decide)
 have e2 := e 2 (by decide)
 have e3 := e 3 (by decide)
 have e4 := e 4 (by decide)
 have e5 := e 5 (by decide)
 have e6 := e 6 (by decide)
 have e7 := e 7 (by decide)
 have e8 := e 8 (by decide)
 simp at e0 e1 e2 e3 e4 e5 e6 e7 e8
 obtain ⟨ha, hB, u0, k0, u1, k1, u2, k2, u3, k3, sub, m0, m1, m2, m3, m4⟩ := h
 obtain ⟨p1, p2, p3⟩ := k0 h0
 refine ⟨ha, below_past hB hB.size hg p2, ?_, ?_, ?_, ?_, ?_, ?_, ?_, ?_, fun x hx => ?_, ?_, ?_, ?_, ?_, ?_⟩
 ·intro q; have e00 := e 0 (by decide); rw [h0] at e00; rw [e00] at q; cases q
 ·exact fun _ => ⟨p1, p2, hw⟩
 ·simpa [e1, e2] using u1
 ·intro q; exact (k1 (by simpa [e1] using q)).map p3 hg
 ·simpa [e3, e4] using u2
 ·intro q; exact (k2 (by simpa [e3] using q)).map p3 hg
 ·simpa [e6, e7] using u3
 ·intro q; exact (k3 (by simpa [e6] using q)).map p3 hg
 ·rcases List.mem_append.1 hx with hx | hx
  ·exact sub x hx
  ·rw [List.mem_singleton.1 hx]; simp [tabT]
 ·rw [e2, ← m0]; simp [sName, sOpen]
 ·rw [e4, ← m1]; simp [sCon, sOpen]
 ·rw [e5, ← m2]; simp [sNum, sOpen]
 ·rw [e7, ← m3]; simp [sBack, sOpen]
 ·simp [e8]
theorem St9.done {W : World} {b mm : Nat} {F : Value → Value → Value → Value → Act} {a : Act} {w : World} {v0 v1 v2 v3 : Value} {es : List (Sh × Value)} (h : St9 W b 511 F a w mm v0 v1 v2 v3 es) : ∃ B : Bx, a = F (.map (some mm)) (namer B.k1 B.r1) (namer B.k2 B.r2) (namer B.k3 B.r3) ∧ Below W.heap.size W w ∧ W.heap.size ≤ mm ∧ KF w mm (atomForms b B) ∧ NamerAt w W.heap.size b 1 (namer B.k1 B.r1) ∧ NamerAt w W.heap.size b 2 (namer B.k2 B.r2) ∧ NamerAt w W.heap.size b 5 (namer B.k3 B.r3) := by
 obtain ⟨ha, hB, u0, k0, u1, k1, u2, k2, u3, k3, sub, m0, m1, m2, m3, m4⟩ := h
 obtain ⟨rfl, p2, p3⟩ := k0 (by decide)
 have n1 := k1 (by decide)
 have n2 := k2 (by decide)
 have n3 := k3 (by decide)
 obtain ⟨g1, r1, rfl, _⟩ := id n1
 obtain ⟨g2, r2, rfl, _⟩ := id n2
 obtain ⟨g3, r3, rfl, _⟩ := id n3
 refine ⟨⟨g1, r1, g2, r2, g3, r3⟩, ha, hB, p2, ⟨es, es.length, p3, look_all (tab := tabT b (namer g1 r1) (namer g2 r2) (namer g3 r3)) (tab_nodup _ _ _ _) sub (fun x hx => ?_)⟩, n1, n2, n3⟩
 simp only [tabT, List.mem_cons, List.not_mem_nil, or_false] at hx
 rcases hx with rfl | rfl | rfl | rfl | rfl
 ·exact m0.2 (by decide)
 ·exact m1.2 (by decide)
 ·exact m2.2 (by decide)
 ·exact m3.2 (by decide)
 ·exact m4.2 (by decide)
theorem region9 {ops : Array Oper} {Q : Exit → Act → World → Prop} {S : World → Prop} (b : Nat) (W : World) (F : Value → Value → Value → Value → Act) (hD : depsOf ops = D9)
  (b1 : ∃ o, ops[1]? = some o ∧ o.guard = none ∧ o.op = Op.makeMap 101 none ∧ ∀ x v1 v2 v3, (F undef v1 v2 v3).put o.dst x = F x v1 v2 v3)
  (c1 : ∃ o y ts, ops[4]? = some o ∧ o.guard = none ∧ o.op = .call { callee := .value (.func 56), args := #[y, .const (.int .i64 1)], argTypes := ts } ∧ (∀ v0 v1 v2 v3, (F v0 v1 v2 v3).eval y = .pointer (some ⟨b, 0, none⟩)) ∧ ∀ x v0 v2 v3, (F v0 undef v2 v3).put o.dst x = F v0 x v2 v3)
  (c2 : ∃ o y ts, ops[8]? = some o ∧ o.guard = none ∧ o.op = .call { callee := .value (.func 56), args := #[y, .const (.int .i64 2)], argTypes := ts } ∧ (∀ v0 v1 v2 v3, (F v0 v1 v2 v3).eval y = .pointer (some ⟨b, 0, none⟩)) ∧ ∀ x v0 v1 v3, (F v0 v1 undef v3).put o.dst x = F v0 v1 x v3)
  (c3 : ∃ o y ts, ops[16]? = some o ∧ o.guard = none ∧ o.op = .call { callee := .value (.func 56), args := #[y, .const (.int .i64 5)], argTypes := ts } ∧ (∀ v0 v1 v2 v3, (F v0 v1 v2 v3).eval y = .pointer (some ⟨b, 0, none⟩)) ∧ ∀ x v0 v1 v2, (F v0 v1 v2 undef).put o.dst x = F v0 v1 v2 x)
  (i0 : ∃ o mo xo vo, ops[5]? = some o ∧ o.guard = none ∧ o.dst = none ∧ o.op = Op.insert 101 mo xo vo ∧ ∀ v0 v1 v2 v3, (F v0 v1 v2 v3).eval mo = v0 ∧ (F v0 v1 v2 v3).eval xo = .agg #[.int .i64 sName.1, .string (tx sName.2)] ∧ (F v0 v1 v2 v3).eval vo = v1)
  (i1 : ∃ o mo xo vo, ops[9]? = some o ∧ o.guard = none ∧ o.dst = none ∧ o.op = Op.insert 101 mo xo vo ∧ ∀ v0 v1 v2 v3, (F v0 v1 v2 v3).eval mo = v0 ∧ (F v0 v1 v2 v3).eval xo = .agg #[.int .i64 sCon.1, .string (tx sCon.2)] ∧ (F v0 v1 v2 v3).eval vo = v2)
  (i2 : ∃ o mo xo vo, ops[13]? = some o ∧ o.guard = none ∧ o.dst = none ∧ o.op = Op.insert 101 mo xo vo ∧ ∀ v0 v1 v2 v3, (F v0 v1 v2 v3).eval mo = v0 ∧ (F v0 v1 v2 v3).eval xo = .agg #[.int .i64 sNum.1, .string (tx sNum.2)] ∧ (F v0 v1 v2 v3).eval vo = meth 57 b)
  (i3 : ∃ o mo xo vo, ops[17]? = some o ∧ o.guard = none ∧ o.dst = none ∧ o.op = Op.insert 101 mo xo vo ∧ ∀ v0 v1 v2 v3, (F v0 v1 v2 v3).eval mo = v0 ∧ (F v0 v1 v2 v3).eval xo = .agg #[.int .i64 sBack.1, .string (tx sBack.2)] ∧ (F v0 v1 v2 v3).eval vo = v3)
  (i4 : ∃ o mo xo vo, ops[21]? = some o ∧ o.guard = none ∧ o.dst = none ∧ o.op = Op.insert 101 mo xo vo ∧ ∀ v0 v1 v2 v3, (F v0 v1 v2 v3).eval mo = v0 ∧ (F v0 v1 v2 v3).eval xo = .agg #[.int .i64 sOpen.1, .string (tx sOpen.2)] ∧ (F v0 v1 v2 v3).eval vo = meth 58 b)
  (hS : ∀ w', Below W.heap.size W w' → S w')
  (hrest : ∀ w' mm v0 v1 v2 v3 es a, St9 W b 511 F a w' mm v0 v1 v2 v3 es → wpAnyH Tryz.prog .any ops Q S 4 (L9 511) a w') :
  wpAnyH Tryz.prog .any ops Q S 13 (L9 0) (F undef undef undef undef) W := by
 have rdy : ∀ n, n < 511 → ∀ i, i ∈ Region.ready .any ops (L9 n) → (i = 5 → n.testBit 0 = true ∧ n.testBit 1 = true) ∧ (i = 9 → n.testBit 0 = true ∧ n.testBit 3 = true) ∧ (i = 13 → n.testBit 0 = true) ∧ (i = 17 → n.testBit 0 = true ∧ n.testBit 6 = true) ∧ (i = 21 → n.testBit 0 = true) := by
  intro n hn i hi
  have h1 := List.all_eq_true.1 chkR n (List.mem_range.2 hn)
  simp only [Bool.and_eq_true, Bool.or_eq_true, Bool.not_eq_true'] at h1
  obtain ⟨⟨⟨⟨q1, q2⟩, q3⟩, q4⟩, q5⟩ := h1
  obtain ⟨-, -, hd⟩ := (ready_deps hD (by decide +kernel)).1 hi
  refine ⟨fun e => ?_, fun e => ?_, fun e => ?_, fun e => ?_, fun e => ?_⟩
  ·subst e; rcases q1 with q | q; rw [show ((D9[5]?).getD []) = [1, 2, 4] from rfl, q] at hd; cases hd; exact q
  ·subst e; rcases q2 with q | q; rw [show ((D9[9]?).getD []) = [1, 6, 8] from rfl, q] at hd; cases hd; exact q
  ·subst e; rcases q3 with q | q; rw [show ((D9[13]?).getD []) = [1, 10, 12] from rfl, q] at hd; cases hd; exact q
  ·subst e; rcases q4 with q | q; rw [show ((D9[17]?).getD []) = [1, 14, 16] from rfl, q] at hd; cases hd; exact q
  ·subst e; rcases q5 with q | q; rw [show ((D9[21]?).getD []) = [1, 18, 20] from rfl, q] at hd; cases hd; exact q
 refine region_some (S := S) 9 L9 IDX9 (zeros 9) (fun n a w => ∃ mm v0 v1 v2 v3 es, St9 W b n F a w mm v0 v1 v2 v3 es) 4 511 (chkSome_spec hD chk9 (fun n j a b c => bits9 n j a b c) (fun i j hi hj e => Fin.val_eq_of_eq ((by decide : ∀ a b : Fin 9, IDX9 a.val = IDX9 b.val → a = b) ⟨i, hi⟩ ⟨j, hj⟩ e))) ?_ (by decide) ?_ 9 0 _ W (by decide) (by decide) ⟨0, undef, undef, undef, undef, [], rfl, Below.refl _ _, fun _ => ⟨rfl, rfl⟩, fun h => (by simp at h), fun _ => ⟨rfl, rfl⟩, fun h => (by simp at h), fun _ => ⟨rfl, rfl⟩, fun h => (by simp at h), fun _ => ⟨rfl, rfl⟩, fun h => (by simp at h), fun x hx => (by cases hx), (by simp), (by simp), (by simp), (by simp), (by simp)⟩
 ·rintro n j a w hn hj hb hi ⟨mm, v0, v1, v2, v3, es, h⟩
  have hr := rdy n hn _ hi
  have hj' : j = 0 ∨ j = 1 ∨ j = 2 ∨ j = 3 ∨ j = 4 ∨ j = 5 ∨ j = 6 ∨ j = 7 ∨ j = 8 := by omega
  rcases hj' with rfl | rfl | rfl | rfl | rfl | rfl | rfl | rfl | rfl
  ·obtain ⟨o, ho, hg, hop, hput⟩ := b1
   refine wpOp_of ho hg (wp_make hop ?_)
   obtain ⟨rfl, -⟩ := h.u0 hb
   have h2 := h.make hn hb
   rw [h.a, hput]
   exact ⟨hS _ h2.B, _, _, _, _, _, _, h2⟩
  ·obtain ⟨o, y, ts, ho, hg, hop, hev, hput⟩ := c1
   refine wpOp_of ho hg (wp_named b 1 y ts hop (by rw [h.a]; exact hev _ _ _ _) fun gk gr w' p1 p2 p3 p4 p5 => ?_)
   obtain ⟨rfl, -⟩ := h.u1 hb
   have hsz := h.B.size
   have h2 := h.call1 hn hb p5 ⟨gk, gr, rfl, p1, p2, by omega, by omega⟩
   rw [h.a, hput]
   exact ⟨hS _ h2.B, _, _, _, _, _, _, h2⟩
  ·obtain ⟨o, mo, xo, vo, ho, hg, hd, hop, hev⟩ := i0
   have hq := hr.1 rfl
   obtain ⟨p1, p2, p3⟩ := h.k0 hq.1
   obtain ⟨f1, f2, f3⟩ := hev v0 v1 v2 v3
   have hne : (sName, v1) ∉ es := fun hx => by rw [h.m0.1 hx] at hb; cases hb
   refine wpOp_of ho hg (wp_insert mo xo vo hop mm sName _ (by rw [h.a, f1, p1]) (by rw [h.a, f2]) (by rw [h.a, f3]) es p3 (look_new (tab_nodup b v1 v2 v3) h.sub (x := (sName, v1)) (by simp [tabT]) hne) fun w' g1 g2 => ?_)
   have h2 := h.ins0 hn hb hq.1 hq.2 g1 g2
   rw [hd]
   exact ⟨hS _ h2.B, _, _, _, _, _, _, h2⟩
  ·obtain ⟨o, y, ts, ho, hg, hop, hev, hput⟩ := c2
   refine wpOp_of ho hg (wp_named b 2 y ts hop (by rw [h.a]; exact hev _ _ _ _) fun gk gr w' p1 p2 p3 p4 p5 => ?_)
   obtain ⟨rfl, -⟩ := h.u2 hb
   have hsz := h.B.size
   have h2 := h.call2 hn hb p5 ⟨gk, gr, rfl, p1, p2, by omega, by omega⟩
   rw [h.a, hput]
   exact ⟨hS _ h2.B, _, _, _, _, _, _, h2⟩
  ·obtain ⟨o, mo, xo, vo, ho, hg, hd, hop, hev⟩ := i1
   have hq := hr.2.1 rfl
   obtain ⟨p1, p2, p3⟩ := h.k0 hq.1
   obtain ⟨f1, f2, f3⟩ := hev v0 v1 v2 v3
   have hne : (sCon, v2) ∉ es := fun hx => by rw [h.m1.1 hx] at hb; cases hb
   refine wpOp_of ho hg (wp_insert mo xo vo hop mm sCon _ (by rw [h.a, f1, p1]) (by rw [h.a, f2]) (by rw [h.a, f3]) es p3 (look_new (tab_nodup b v1 v2 v3) h.sub (x := (sCon, v2)) (by simp [tabT]) hne) fun w' g1 g2 => ?_)
   have h2 := h.ins1 hn hb hq.1 hq.2 g1 g2
   rw [hd]
   exact ⟨hS _ h2.B, _, _, _, _, _, _, h2⟩
  ·obtain ⟨o, mo, xo, vo, ho, hg, hd, hop, hev⟩ := i2
   have hq := hr.2.2.1 rfl
   obtain ⟨p1, p2, p3⟩ := h.k0 hq
   obtain ⟨f1, f2, f3⟩ := hev v0 v1 v2 v3
   have hne : (sNum, meth 57 b) ∉ es := fun hx => by rw [h.m2.1 hx] at hb; cases hb
   refine wpOp_of ho hg (wp_insert mo xo vo hop mm sNum _ (by rw [h.a, f1, p1]) (by rw [h.a, f2]) (by rw [h.a, f3]) es p3 (look_new (tab_nodup b v1 v2 v3) h.sub (x := (sNum, meth 57 b)) (by simp [tabT]) hne) fun w' g1 g2 => ?_)
   have h2 := h.ins2 hn hb hq g1 g2
   rw [hd]
   exact ⟨hS _ h2.B, _, _, _, _, _, _, h2⟩
  ·obtain ⟨o, y, ts, ho, hg, hop, hev, hput⟩ := c3
   refine wpOp_of ho hg (wp_named b 5 y ts hop (by rw [h.a]; exact hev _ _ _ _) fun gk gr w' p1 p2 p3 p4 p5 => ?_)
   obtain ⟨rfl, -⟩ := h.u3 hb
   have hsz := h.B.size
   have h2 := h.call3 hn hb p5 ⟨gk, gr, rfl, p1, p2, by omega, by omega⟩
   rw [h.a, hput]
   exact ⟨hS _ h2.B, _, _, _, _, _, _, h2⟩
  ·obtain ⟨o, mo, xo, vo, ho, hg, hd, hop, hev⟩ := i3
   have hq := hr.2.2.2.1 rfl
   obtain ⟨p1, p2, p3⟩ := h.k0 hq.1
   obtain ⟨f1, f2, f3⟩ := hev v0 v1 v2 v3
   have hne : (sBack, v3) ∉ es := fun hx => by rw [h.m3.1 hx] at hb; cases hb
   refine wpOp_of ho hg (wp_insert mo xo vo hop mm sBack _ (by rw [h.a, f1, p1]) (by rw [h.a, f2]) (by rw [h.a, f3]) es p3 (look_new (tab_nodup b v1 v2 v3) h.sub (x := (sBack, v3)) (by simp [tabT]) hne) fun w' g1 g2 => ?_)
   have h2 := h.ins3 hn hb hq.1 hq.2 g1 g2
   rw [hd]
   exact ⟨hS _ h2.B, _, _, _, _, _, _, h2⟩
  ·obtain ⟨o, mo, xo, vo, ho, hg, hd, hop, hev⟩ := i4
   have hq := hr.2.2.2.2 rfl
   obtain ⟨p1, p2, p3⟩ := h.k0 hq
   obtain ⟨f1, f2, f3⟩ := hev v0 v1 v2 v3
   have hne : (sOpen, meth 58 b) ∉ es := fun hx => by rw [h.m4.1 hx] at hb; cases hb
   refine wpOp_of ho hg (wp_insert mo xo vo hop mm sOpen _ (by rw [h.a, f1, p1]) (by rw [h.a, f2]) (by rw [h.a, f3]) es p3 (look_new (tab_nodup b v1 v2 v3) h.sub (x := (sOpen, meth 58 b)) (by simp [tabT]) hne) fun w' g1 g2 => ?_)
   have h2 := h.ins4 hn hb hq g1 g2
   rw [hd]
   exact ⟨hS _ h2.B, _, _, _, _, _, _, h2⟩
 ·rintro a w ⟨mm, v0, v1, v2, v3, es, h⟩
  exact hrest w mm v0 v1 v2 v3 es a h
def F4 (a : Act) (d0 d1 d2 d3 : Nat) (v0 v1 v2 v3 : Value) : Act := (((a.put (some d0) v0).put (some d1) v1).put (some d2) v2).put (some d3) v3
theorem region9L {ops : Array Oper} {Q : Exit → Act → World → Prop} {S : World → Prop} {listed : Array Bool} (hl : listed = L9 0) (b : Nat) (W : World) (a0 : Act) (d0 d1 d2 d3 : Nat) (hF : F4 a0 d0 d1 d2 d3 undef undef undef undef = a0) (hD : depsOf ops = D9)
  (b1 : ∃ o, ops[1]? = some o ∧ o.guard = none ∧ o.op = Op.makeMap 101 none ∧ ∀ x v1 v2 v3, (F4 a0 d0 d1 d2 d3 undef v1 v2 v3).put o.dst x = F4 a0 d0 d1 d2 d3 x v1 v2 v3)
  (c1 : ∃ o y ts, ops[4]? = some o ∧ o.guard = none ∧ o.op = .call { callee := .value (.func 56), args := #[y, .const (.int .i64 1)], argTypes := ts } ∧ (∀ v0 v1 v2 v3, (F4 a0 d0 d1 d2 d3 v0 v1 v2 v3).eval y = .pointer (some ⟨b, 0, none⟩)) ∧ ∀ x v0 v2 v3, (F4 a0 d0 d1 d2 d3 v0 undef v2 v3).put o.dst x = F4 a0 d0 d1 d2 d3 v0 x v2 v3)
  (c2 : ∃ o y ts, ops[8]? = some o ∧ o.guard = none ∧ o.op = .call { callee := .value (.func 56), args := #[y, .const (.int .i64 2)], argTypes := ts } ∧ (∀ v0 v1 v2 v3, (F4 a0 d0 d1 d2 d3 v0 v1 v2 v3).eval y = .pointer (some ⟨b, 0, none⟩)) ∧ ∀ x v0 v1 v3, (F4 a0 d0 d1 d2 d3 v0 v1 undef v3).put o.dst x = F4 a0 d0 d1 d2 d3 v0 v1 x v3)
  (c3 : ∃ o y ts, ops[16]? = some o ∧ o.guard = none ∧ o.op = .call { callee := .value (.func 56), args := #[y, .const (.int .i64 5)], argTypes := ts } ∧ (∀ v0 v1 v2 v3, (F4 a0 d0 d1 d2 d3 v0 v1 v2 v3).eval y = .pointer (some ⟨b, 0, none⟩)) ∧ ∀ x v0 v1 v2, (F4 a0 d0 d1 d2 d3 v0 v1 v2 undef).put o.dst x = F4 a0 d0 d1 d2 d3 v0 v1 v2 x)
  (i0 : ∃ o mo xo vo, ops[5]? = some o ∧ o.guard = none ∧ o.dst = none ∧ o.op = Op.insert 101 mo xo vo ∧ ∀ v0 v1 v2 v3, (F4 a0 d0 d1 d2 d3 v0 v1 v2 v3).eval mo = v0 ∧ (F4 a0 d0 d1 d2 d3 v0 v1 v2 v3).eval xo = .agg #[.int .i64 sName.1, .string (tx sName.2)] ∧ (F4 a0 d0 d1 d2 d3 v0 v1 v2 v3).eval vo = v1)
  (i1 : ∃ o mo xo vo, ops[9]? = some o ∧ o.guard = none ∧ o.dst = none ∧ o.op = Op.insert 101 mo xo vo ∧ ∀ v0 v1 v2 v3, (F4 a0 d0 d1 d2 d3 v0 v1 v2 v3).eval mo = v0 ∧ (F4 a0 d0 d1 d2 d3 v0 v1 v2 v3).eval xo = .agg #[.int .i64 sCon.1, .string (tx sCon.2)] ∧ (F4 a0 d0 d1 d2 d3 v0 v1 v2 v3).eval vo = v2)
  (i2 : ∃ o mo xo vo, ops[13]? = some o ∧ o.guard = none ∧ o.dst = none ∧ o.op = Op.insert 101 mo xo vo ∧ ∀ v0 v1 v2 v3, (F4 a0 d0 d1 d2 d3 v0 v1 v2 v3).eval mo = v0 ∧ (F4 a0 d0 d1 d2 d3 v0 v1 v2 v3).eval xo = .agg #[.int .i64 sNum.1, .string (tx sNum.2)] ∧ (F4 a0 d0 d1 d2 d3 v0 v1 v2 v3).eval vo = meth 57 b)
  (i3 : ∃ o mo xo vo, ops[17]? = some o ∧ o.guard = none ∧ o.dst = none ∧ o.op = Op.insert 101 mo xo vo ∧ ∀ v0 v1 v2 v3, (F4 a0 d0 d1 d2 d3 v0 v1 v2 v3).eval mo = v0 ∧ (F4 a0 d0 d1 d2 d3 v0 v1 v2 v3).eval xo = .agg #[.int .i64 sBack.1, .string (tx sBack.2)] ∧ (F4 a0 d0 d1 d2 d3 v0 v1 v2 v3).eval vo = v3)
  (i4 : ∃ o mo xo vo, ops[21]? = some o ∧ o.guard = none ∧ o.dst = none ∧ o.op = Op.insert 101 mo xo vo ∧ ∀ v0 v1 v2 v3, (F4 a0 d0 d1 d2 d3 v0 v1 v2 v3).eval mo = v0 ∧ (F4 a0 d0 d1 d2 d3 v0 v1 v2 v3).eval xo = .agg #[.int .i64 sOpen.1, .string (tx sOpen.2)] ∧ (F4 a0 d0 d1 d2 d3 v0 v1 v2 v3).eval vo = meth 58 b)
  (hS : ∀ w', Below W.heap.size W w' → S w')
  (hrest : ∀ w' mm v0 v1 v2 v3 es a, St9 W b 511 (F4 a0 d0 d1 d2 d3) a w' mm v0 v1 v2 v3 es → wpAnyH Tryz.prog .any ops Q S 4 #[true, true, true, true, true, true, true, true, true, true, true, true, true, true, true, true, true, true, true, true, true, true, false, false, false, false] a w') :
  wpAnyH Tryz.prog .any ops Q S 13 listed a0 W := by
 subst hl
 rw [show (#[true, true, true, true, true, true, true, true, true, true, true, true, true, true, true, true, true, true, true, true, true, true, false, false, false, false] : Array Bool) = L9 511 by decide +kernel] at hrest
 have h := region9 (Q := Q) (S := S) b W (F4 a0 d0 d1 d2 d3) hD b1 c1 c2 c3 i0 i1 i2 i3 i4 hS hrest
 rw [hF] at h
 exact h
theorem forms_nodup (b : Nat) : ((exprForms b).map (·.1)).Nodup := by
 show [sLet, sCase, sLam, sName, sCon, sNum, sBack, sOpen].Nodup
 decide
theorem below_new {n : Nat} {w W : World} (h : Below n w W) (p i : Nat) (v : Value) (hp : n ≤ p) : Below n w (W.setCell ⟨p, i, none⟩ v) :=
 ⟨h.os, h.tape, h.output, Nt h.size (by simp [World.setCell]), fun k hk => (Below.heap_setCell _ _ _ _ (by simp only; omega)).trans (h.block k hk)⟩
theorem inserts8L {ops : Array Oper} {Q : Exit → Act → World → Prop} {S : World → Prop} {listed : Array Bool} (hl : listed = L8 0) (tab : List (Sh × Value)) (hnd : (tab.map (·.1)).Nodup) (a : Act) (m : Nat) (w : World)
  (hD : depsOf ops = D8)
  (hops : ∀ j, j < 8 → ∃ o mo xo vo x, ops[4 * j + 5]? = some o ∧ o.guard = none ∧ o.dst = none ∧ o.op = Op.insert 101 mo xo vo ∧ tab[j]? = some x ∧ a.eval mo = .map (some m) ∧ a.eval xo = .agg #[.int .i64 x.1.1, .string (tx x.1.2)] ∧ a.eval vo = x.2)
  (hS : ∀ w', w.grownBy w' (some m) → S w') (hm : KX w m []) (hlen : tab.length = 8)
  (hrest : ∀ w' es, KX w' m es → (∀ s, lookSh es s = lookSh tab s) → w.grownBy w' (some m) → tab.length = 8 → wpAnyH Tryz.prog .any ops Q S 4 #[true, true, true, true, true, true, true, true, true, true, true, true, true, true, true, true, true, true, true, true, true, true, true, true, true, true, true, true, true, true, true, true, true, true, false, false, false, false] a w') :
  wpAnyH Tryz.prog .any ops Q S 12 listed a w := by
 subst hl
 rw [show (#[true, true, true, true, true, true, true, true, true, true, true, true, true, true, true, true, true, true, true, true, true, true, true, true, true, true, true, true, true, true, true, true, true, true, false, false, false, false] : Array Bool) = L8 255 by decide +kernel] at hrest
 exact inserts8 tab hnd a m w hD hops hS hm hrest hlen
def ReaderAt (w0 : World) (a : Option Addr) (T : List Tok) (c : Nat) (w : World) (v3 v4 : Value) : Prop :=
 Below w0.heap.size w0 w ∧ BoxW w w0.heap.size [.slice a T.length c, .int .i64 1, .int .i64 0, v3, v4] ∧ Env8 w w0.heap.size
theorem ReaderAt.below {w0 w w' : World} {a : Option Addr} {T : List Tok} {c : Nat} {v3 v4 : Value} (h : ReaderAt w0 a T c w v3 v4) (hb : Below w.heap.size w w') : ReaderAt w0 a T c w' v3 v4 :=
 ⟨onB' h.1 hb, h.2.1.below hb, h.2.2.later (grown_of hb)⟩
theorem newReader_any (a : Option Addr) (T : List Tok) (c : Nat) (w : World) (hT : RestIn w w.heap.size (.slice a T.length c) T) (hE : Env8 w w.heap.size) : Calls Tryz.prog 25 #[.slice a T.length c] w (fun e w' => ∃ me ma B, e = .returned (.pointer (some ⟨w.heap.size, 0, none⟩)) ∧ Ctx w' w.heap.size me ma B ∧ Rdr w' w.heap.size me ma 1 T 0 ∧ Below w.heap.size w w') := by
 have hy := (Below.refl w.heap.size w).alloc Nr (.cells #[.slice a T.length c, .int .i64 1, .int .i64 0, .map none, .map none] 103)
 have hB := BoxW.alloc w #[.slice a T.length c, .int .i64 1, .int .i64 0, .map none, .map none] 103
 have HT := Hd hT
 have HR0 := Hd (show ReaderAt w a T c _ (.map none) (.map none) from ⟨hy, hB, hE.later (grown_of hy)⟩)
 have hsz : w.heap.size + 1 ≤ (w.alloc (.cells #[.slice a T.length c, .int .i64 1, .int .i64 0, .map none, .map none] 103)).heap.size := by simp
 clear hy hB hT hE
 go_enter Tryz.func25, Tryz.ntmps25
 go_upto_region 2 with fail
 generalize (w.alloc (.cells #[.slice a T.length c, .int .i64 1, .int .i64 0, .map none, .map none] 103)) = W at *
 have hdr : Below W.heap.size W W.drew := (Below.refl W.heap.size W).drew
 have HR1 := Hd (HR0.out.below hdr)
 have HSo := Hd (show ∀ w', Env8 w' w.heap.size → (w'.cell? ⟨0, 0, none⟩ = some (.int .i64 sLet.1) ∧ w'.cell? ⟨0, 1, none⟩ = some (.string (tx sLet.2)) ∧ w'.cell? ⟨1, 0, none⟩ = some (.int .i64 sCase.1) ∧ w'.cell? ⟨1, 1, none⟩ = some (.string (tx sCase.2)) ∧ w'.cell? ⟨2, 0, none⟩ = some (.int .i64 sLam.1) ∧ w'.cell? ⟨2, 1, none⟩ = some (.string (tx sLam.2)) ∧ w'.cell? ⟨3, 0, none⟩ = some (.int .i64 sName.1) ∧ w'.cell? ⟨3, 1, none⟩ = some (.string (tx sName.2)) ∧ w'.cell? ⟨4, 0, none⟩ = some (.int .i64 sCon.1) ∧ w'.cell? ⟨4, 1, none⟩ = some (.string (tx sCon.2)) ∧ w'.cell? ⟨5, 0, none⟩ = some (.int .i64 sNum.1) ∧ w'.cell? ⟨5, 1, none⟩ = some (.string (tx sNum.2)) ∧ w'.cell? ⟨6, 0, none⟩ = some (.int .i64 sBack.1) ∧ w'.cell? ⟨6, 1, none⟩ = some (.string (tx sBack.2)) ∧ w'.cell? ⟨7, 0, none⟩ = some (.int .i64 sOpen.1) ∧ w'.cell? ⟨7, 1, none⟩ = some (.string (tx sOpen.2))) from fun w' hEd => ⟨hEd.letw.1.1, hEd.letw.1.2, hEd.casew.1.1, hEd.casew.1.2, hEd.lam.1.1, hEd.lam.1.2, hEd.name.1.1, hEd.name.1.2, hEd.con.1.1, hEd.con.1.2, hEd.num.1.1, hEd.num.1.2, hEd.back.1.1, hEd.back.1.2, hEd.opn.1.1, hEd.opn.1.2⟩)
 refine wp_region_held_drew (S := fun w' => w'.cell? ⟨0, 0, none⟩ = some (.int .i64 sLet.1) ∧ w'.cell? ⟨0, 1, none⟩ = some (.string (tx sLet.2)) ∧ w'.cell? ⟨1, 0, none⟩ = some (.int .i64 sCase.1) ∧ w'.cell? ⟨1, 1, none⟩ = some (.string (tx sCase.2)) ∧ w'.cell? ⟨2, 0, none⟩ = some (.int .i64 sLam.1) ∧ w'.cell? ⟨2, 1, none⟩ = some (.string (tx sLam.2)) ∧ w'.cell? ⟨3, 0, none⟩ = some (.int .i64 sName.1) ∧ w'.cell? ⟨3, 1, none⟩ = some (.string (tx sName.2)) ∧ w'.cell? ⟨4, 0, none⟩ = some (.int .i64 sCon.1) ∧ w'.cell? ⟨4, 1, none⟩ = some (.string (tx sCon.2)) ∧ w'.cell? ⟨5, 0, none⟩ = some (.int .i64 sNum.1) ∧ w'.cell? ⟨5, 1, none⟩ = some (.string (tx sNum.2)) ∧ w'.cell? ⟨6, 0, none⟩ = some (.int .i64 sBack.1) ∧ w'.cell? ⟨6, 1, none⟩ = some (.string (tx sBack.2)) ∧ w'.cell? ⟨7, 0, none⟩ = some (.int .i64 sOpen.1) ∧ w'.cell? ⟨7, 1, none⟩ = some (.string (tx sOpen.2))) (by kernel_rfl) (HSo.out _ HR1.out.2.2) (fun hHeld => ?_)
 refine wpAnyH_take (i := 0) (oi := _) (v := ?_) rfl (by kernel_rfl) (by kernel_rfl) (by kernel_rfl) (fun _ _ _ h => h) (Or.inl ⟨by rfl, ?_⟩) (by assumption) ?_
 rotate_left
 ·intro w hSw
  try dsimp only at hSw
  go_simp <;> with_reducible rfl
 try simp only [Act.put, List.setIfInBounds_toArray]
 refine wpAnyH_take (i := 2) (oi := _) (v := ?_) rfl (by kernel_rfl) (by kernel_rfl) (by kernel_rfl) (fun _ _ _ h => h) (Or.inl ⟨by rfl, ?_⟩) (by assumption) ?_
 rotate_left
 ·intro w hSw
  try dsimp only at hSw
  go_simp <;> with_reducible rfl
 try simp only [Act.put]
 refine wpAnyH_take (i := 3) (oi := _) (v := ?_) rfl (by kernel_rfl) (by kernel_rfl) (by kernel_rfl) (fun _ _ _ h => h) (Or.inl ⟨by rfl, ?_⟩) (by assumption) ?_
 rotate_left
 ·intro w hSw
  try dsimp only at hSw
  go_simp <;> with_reducible rfl
 try simp only [Act.put]
 refine wpAnyH_take (i := 4) (oi := _) (v := ?_) rfl (by kernel_rfl) (by kernel_rfl) (by kernel_rfl) (fun _ _ _ h => h) (Or.inl ⟨by rfl, ?_⟩) (by assumption) ?_
 rotate_left
 ·intro w hSw
  try dsimp only at hSw
  go_simp <;> with_reducible rfl
 try simp only [Act.put]
 refine wpAnyH_take (i := 6) (oi := _) (v := ?_) rfl (by kernel_rfl) (by kernel_rfl) (by kernel_rfl) (fun _ _ _ h => h) (Or.inl ⟨by rfl, ?_⟩) (by assumption) ?_
 rotate_left
 ·intro w hSw
  try dsimp only at hSw
  go_simp <;> with_reducible rfl
 try simp only [Act.put]
 refine wpAnyH_take (i := 7) (oi := _) (v := ?_) rfl (by kernel_rfl) (by kernel_rfl) (by kernel_rfl) (fun _ _ _ h => h) (Or.inl ⟨by rfl, ?_⟩) (by assumption) ?_
 rotate_left
 ·intro w hSw
  try dsimp only at hSw
  go_simp <;> with_reducible rfl
 try simp only [Act.put]
 refine wpAnyH_take (i := 8) (oi := _) (v := ?_) rfl (by kernel_rfl) (by kernel_rfl) (by kernel_rfl) (fun _ _ _ h => h) (Or.inl ⟨by rfl, ?_⟩) (by assumption) ?_
 rotate_left
 ·intro w hSw
  try dsimp only at hSw
  go_simp <;> with_reducible rfl
 try simp only [Act.put]
 refine wpAnyH_take (i := 10) (oi := _) (v := ?_) rfl (by kernel_rfl) (by kernel_rfl) (by kernel_rfl) (fun _ _ _ h => h) (Or.inl ⟨by rfl, ?_⟩) (by assumption) ?_
 rotate_left
 ·intro w hSw
  try dsimp only at hSw
  go_simp <;> with_reducible rfl
 try simp only [Act.put]
 refine wpAnyH_take (i := 11) (oi := _) (v := ?_) rfl (by kernel_rfl) (by kernel_rfl) (by kernel_rfl) (fun _ _ _ h => h) (Or.inl ⟨by rfl, ?_⟩) (by assumption) ?_
 rotate_left
 ·intro w hSw
  try dsimp only at hSw
  go_simp <;> with_reducible rfl
 try simp only [Act.put]
 refine wpAnyH_take (i := 12) (oi := _) (v := ?_) rfl (by kernel_rfl) (by kernel_rfl) (by kernel_rfl) (fun _ _ _ h => h) (Or.inl ⟨by rfl, ?_⟩) (by assumption) ?_
 rotate_left
 ·intro w hSw
  try dsimp only at hSw
  go_simp <;> with_reducible rfl
 try simp only [Act.put]
 refine wpAnyH_take (i := 14) (oi := _) (v := ?_) rfl (by kernel_rfl) (by kernel_rfl) (by kernel_rfl) (fun _ _ _ h => h) (Or.inl ⟨by rfl, ?_⟩) (by assumption) ?_
 rotate_left
 ·intro w hSw
  try dsimp only at hSw
  go_simp <;> with_reducible rfl
 try simp only [Act.put]
 refine wpAnyH_take (i := 15) (oi := _) (v := ?_) rfl (by kernel_rfl) (by kernel_rfl) (by kernel_rfl) (fun _ _ _ h => h) (Or.inl ⟨by rfl, ?_⟩) (by assumption) ?_
 rotate_left
 ·intro w hSw
  try dsimp only at hSw
  go_simp <;> with_reducible rfl
 try simp only [Act.put]
 refine wpAnyH_take (i := 16) (oi := _) (v := ?_) rfl (by kernel_rfl) (by kernel_rfl) (by kernel_rfl) (fun _ _ _ h => h) (Or.inl ⟨by rfl, ?_⟩) (by assumption) ?_
 rotate_left
 ·intro w hSw
  try dsimp only at hSw
  go_simp <;> with_reducible rfl
 try simp only [Act.put]
 refine wpAnyH_take (i := 18) (oi := _) (v := ?_) rfl (by kernel_rfl) (by kernel_rfl) (by kernel_rfl) (fun _ _ _ h => h) (Or.inl ⟨by rfl, ?_⟩) (by assumption) ?_
 rotate_left
 ·intro w hSw
  try dsimp only at hSw
  go_simp <;> with_reducible rfl
 try simp only [Act.put]
 refine wpAnyH_take (i := 19) (oi := _) (v := ?_) rfl (by kernel_rfl) (by kernel_rfl) (by kernel_rfl) (fun _ _ _ h => h) (Or.inl ⟨by rfl, ?_⟩) (by assumption) ?_
 rotate_left
 ·intro w hSw
  try dsimp only at hSw
  go_simp <;> with_reducible rfl
 try simp only [Act.put]
 refine wpAnyH_take (i := 20) (oi := _) (v := ?_) rfl (by kernel_rfl) (by kernel_rfl) (by kernel_rfl) (fun _ _ _ h => h) (Or.inl ⟨by rfl, ?_⟩) (by assumption) ?_
 rotate_left
 ·intro w hSw
  try dsimp only at hSw
  go_simp <;> with_reducible rfl
 try simp only [Act.put]
 refine wpAnyH_take (i := 22) (oi := _) (v := ?_) rfl (by kernel_rfl) (by kernel_rfl) (by kernel_rfl) (fun _ _ _ h => h) (Or.inl ⟨by rfl, ?_⟩) (by assumption) ?_
 rotate_left
 ·intro w hSw
  try dsimp only at hSw
  go_simp <;> with_reducible rfl
 try simp only [Act.put]
 refine wpAnyH_take (i := 23) (oi := _) (v := ?_) rfl (by kernel_rfl) (by kernel_rfl) (by kernel_rfl) (fun _ _ _ h => h) (Or.inl ⟨by rfl, ?_⟩) (by assumption) ?_
 rotate_left
 ·intro w hSw
  try dsimp only at hSw
  go_simp <;> with_reducible rfl
 try simp only [Act.put]
 refine wpAnyH_take (i := 24) (oi := _) (v := ?_) rfl (by kernel_rfl) (by kernel_rfl) (by kernel_rfl) (fun _ _ _ h => h) (Or.inl ⟨by rfl, ?_⟩) (by assumption) ?_
 rotate_left
 ·intro w hSw
  try dsimp only at hSw
  go_simp <;> with_reducible rfl
 try simp only [Act.put]
 refine wpAnyH_take (i := 26) (oi := _) (v := ?_) rfl (by kernel_rfl) (by kernel_rfl) (by kernel_rfl) (fun _ _ _ h => h) (Or.inl ⟨by rfl, ?_⟩) (by assumption) ?_
 rotate_left
 ·intro w hSw
  try dsimp only at hSw
  go_simp <;> with_reducible rfl
 try simp only [Act.put]
 refine wpAnyH_take (i := 27) (oi := _) (v := ?_) rfl (by kernel_rfl) (by kernel_rfl) (by kernel_rfl) (fun _ _ _ h => h) (Or.inl ⟨by rfl, ?_⟩) (by assumption) ?_
 rotate_left
 ·intro w hSw
  try dsimp only at hSw
  go_simp <;> with_reducible rfl
 try simp only [Act.put]
 refine wpAnyH_take (i := 28) (oi := _) (v := ?_) rfl (by kernel_rfl) (by kernel_rfl) (by kernel_rfl) (fun _ _ _ h => h) (Or.inl ⟨by rfl, ?_⟩) (by assumption) ?_
 rotate_left
 ·intro w hSw
  try dsimp only at hSw
  go_simp <;> with_reducible rfl
 try simp only [Act.put]
 refine wpAnyH_take (i := 30) (oi := _) (v := ?_) rfl (by kernel_rfl) (by kernel_rfl) (by kernel_rfl) (fun _ _ _ h => h) (Or.inl ⟨by rfl, ?_⟩) (by assumption) ?_
 rotate_left
 ·intro w hSw
  try dsimp only at hSw
  go_simp <;> with_reducible rfl
 try simp only [Act.put]
 refine wpAnyH_take (i := 31) (oi := _) (v := ?_) rfl (by kernel_rfl) (by kernel_rfl) (by kernel_rfl) (fun _ _ _ h => h) (Or.inl ⟨by rfl, ?_⟩) (by assumption) ?_
 rotate_left
 ·intro w hSw
  try dsimp only at hSw
  go_simp <;> with_reducible rfl
 try simp only [Act.put]
 refine wpAnyH_take (i := 32) (oi := _) (v := ?_) rfl (by kernel_rfl) (by kernel_rfl) (by kernel_rfl) (fun _ _ _ h => h) (Or.inl ⟨by rfl, ?_⟩) (by assumption) ?_
 rotate_left
 ·intro w hSw
  try dsimp only at hSw
  go_simp <;> with_reducible rfl
 try simp only [Act.put]
 clear hHeld
 have hyM := (Below.refl W.drew.heap.size W.drew).alloc Nr (.map #[] 0)
 refine wpAnyH_ready (rs := [1]) (by kernel_rfl) (by simp) ?_
 refine AllReadyH.cons (o := _) rfl (fun K hK => ?_) AllReadyH.nil
 refine step_wanted rfl (wp_make rfl ?_)
 refine hK.out _ _ (HSo.out _ (HR1.out.below hyM).2.2) (fun hHeld2 => ?_)
 clear hK K hHeld2
 try simp only [Act.put]
 refine inserts8L (by kernel_rfl) (exprForms w.heap.size) (forms_nodup _) _ W.drew.heap.size _ (by kernel_rfl) (fun j hj => ?_) (fun w' hg => HSo.out _ (HR1.out.below (below_map hg)).2.2) (heap_alloc_new W.drew (.map #[] 0)) rfl ?_
 ·have hj' : j = 0 ∨ j = 1 ∨ j = 2 ∨ j = 3 ∨ j = 4 ∨ j = 5 ∨ j = 6 ∨ j = 7 := by omega
  rcases hj' with rfl | rfl | rfl | rfl | rfl | rfl | rfl | rfl
  ·exact ⟨_, .tmp 8, .tmp 9, .tmp 11, (sLet, meth 52 w.heap.size), rfl, by kernel_rfl, by kernel_rfl, by kernel_rfl, by kernel_rfl, by kernel_rfl, by kernel_rfl, by kernel_rfl⟩
  ·exact ⟨_, .tmp 8, .tmp 12, .tmp 14, (sCase, meth 53 w.heap.size), rfl, by kernel_rfl, by kernel_rfl, by kernel_rfl, by kernel_rfl, by kernel_rfl, by kernel_rfl, by kernel_rfl⟩
  ·exact ⟨_, .tmp 8, .tmp 15, .tmp 17, (sLam, meth 54 w.heap.size), rfl, by kernel_rfl, by kernel_rfl, by kernel_rfl, by kernel_rfl, by kernel_rfl, by kernel_rfl, by kernel_rfl⟩
  ·exact ⟨_, .tmp 8, .tmp 18, .tmp 20, (sName, meth 55 w.heap.size), rfl, by kernel_rfl, by kernel_rfl, by kernel_rfl, by kernel_rfl, by kernel_rfl, by kernel_rfl, by kernel_rfl⟩
  ·exact ⟨_, .tmp 8, .tmp 21, .tmp 23, (sCon, meth 55 w.heap.size), rfl, by kernel_rfl, by kernel_rfl, by kernel_rfl, by kernel_rfl, by kernel_rfl, by kernel_rfl, by kernel_rfl⟩
  ·exact ⟨_, .tmp 8, .tmp 24, .tmp 26, (sNum, meth 55 w.heap.size), rfl, by kernel_rfl, by kernel_rfl, by kernel_rfl, by kernel_rfl, by kernel_rfl, by kernel_rfl, by kernel_rfl⟩
  ·exact ⟨_, .tmp 8, .tmp 27, .tmp 29, (sBack, meth 55 w.heap.size), rfl, by kernel_rfl, by kernel_rfl, by kernel_rfl, by kernel_rfl, by kernel_rfl, by kernel_rfl, by kernel_rfl⟩
  ·exact ⟨_, .tmp 8, .tmp 30, .tmp 32, (sOpen, meth 55 w.heap.size), rfl, by kernel_rfl, by kernel_rfl, by kernel_rfl, by kernel_rfl, by kernel_rfl, by kernel_rfl, by kernel_rfl⟩
 intro w2 es hK hlook hg _
 have hb2 := below_map hg
 have HR2 := Hd (HR1.out.below hb2)
 have HKF := Hd (show KF w2 W.heap.size (exprForms w.heap.size) from ⟨es, _, hK, hlook⟩)
 have hmb : w.heap.size + 1 ≤ W.heap.size := hsz
 have hs2 : W.heap.size + 1 ≤ w2.heap.size := by have := hg.size; simp at this ⊢; omega
 have r3 := HR2.out.2.1.1 3 _ rfl
 have z3 := HR2.out.2.1.2 3
 clear hK hlook hg hb2 hyM hdr
 refine wpAnyH_ready (rs := [34]) (by kernel_rfl) (by simp) ?_
 refine AllReadyH.cons (o := _) rfl (fun K hK => ?_) AllReadyH.nil
 go_simp
 refine hK.out _ _ (HSo.out _ HR2.out.2.2) (fun hHeld2 => ?_)
 clear hK K hHeld2
 try simp only [List.setIfInBounds_toArray, List.set_cons_zero, List.set_cons_succ]
 refine wpAnyH_ready (rs := [35]) (by kernel_rfl) (by simp) ?_
 refine AllReadyH.cons (o := _) rfl (fun K hK => ?_) AllReadyH.nil
 go_simp
 refine hK.out _ _ (HSo.out _ HR2.out.2.2) (fun hHeld2 => ?_)
 clear hK K hHeld2
 try simp only [List.setIfInBounds_toArray, List.set_cons_zero, List.set_cons_succ]
 refine wpAnyH_ready (rs := [36]) (by kernel_rfl) (by simp) ?_
 refine AllReadyH.cons (o := _) rfl (fun K hK => ?_) AllReadyH.nil
 go_simp
 refine hK.out _ _ (HSo.out _ HR2.out.2.2) (fun hHeld2 => ?_)
 clear hK K hHeld2
 try simp only [List.setIfInBounds_toArray, List.set_cons_zero, List.set_cons_succ]
 have HR3 := Hd (show ReaderAt w a T c (w2.setCell ⟨w.heap.size, 3, none⟩ (.map (some W.heap.size))) (.map (some W.heap.size)) (.map none) from ⟨below_new HR2.out.1 _ _ _ Nr, HR2.out.2.1.set 3 (show 3 < 5 by decide) _, HR2.out.2.2.later (set_grown _ _ _ _)⟩)
 refine wpAnyH_ready (rs := [37]) (by kernel_rfl) (by simp) ?_
 refine AllReadyH.cons (o := _) rfl (fun K hK => ?_) AllReadyH.nil
 go_simp
 refine hK.out _ _ (HSo.out _ HR3.out.2.2) (fun hHeld2 => ?_)
 clear hK K hHeld2
 try simp only [List.setIfInBounds_toArray, List.set_cons_zero, List.set_cons_succ]
 refine wpAnyH_done (by kernel_rfl) ?_ _
 have HKF3 := Hd (HKF.out.later (set_grown w2 w.heap.size 3 (.map (some W.heap.size))) (by omega))
 have hs3 : w2.heap.size ≤ (w2.setCell ⟨w.heap.size, 3, none⟩ (.map (some W.heap.size))).heap.size := by simp
 clear r3 z3 HKF
 go_upto_region 3 with fail
 generalize (w2.setCell ⟨w.heap.size, 3, none⟩ (.map (some W.heap.size))) = W3 at *
 have hdr : Below W3.heap.size W3 W3.drew := (Below.refl W3.heap.size W3).drew
 have HR4 := Hd (HR3.out.below hdr)
 have HSp := Hd (show ∀ w', Env8 w' w.heap.size → (w'.cell? ⟨3, 0, none⟩ = some (.int .i64 sName.1) ∧ w'.cell? ⟨3, 1, none⟩ = some (.string (tx sName.2)) ∧ w'.cell? ⟨4, 0, none⟩ = some (.int .i64 sCon.1) ∧ w'.cell? ⟨4, 1, none⟩ = some (.string (tx sCon.2)) ∧ w'.cell? ⟨5, 0, none⟩ = some (.int .i64 sNum.1) ∧ w'.cell? ⟨5, 1, none⟩ = some (.string (tx sNum.2)) ∧ w'.cell? ⟨6, 0, none⟩ = some (.int .i64 sBack.1) ∧ w'.cell? ⟨6, 1, none⟩ = some (.string (tx sBack.2)) ∧ w'.cell? ⟨7, 0, none⟩ = some (.int .i64 sOpen.1) ∧ w'.cell? ⟨7, 1, none⟩ = some (.string (tx sOpen.2))) from fun w' hEd => ⟨hEd.name.1.1, hEd.name.1.2, hEd.con.1.1, hEd.con.1.2, hEd.num.1.1, hEd.num.1.2, hEd.back.1.1, hEd.back.1.2, hEd.opn.1.1, hEd.opn.1.2⟩)
 refine wp_region_held_drew (S := fun w' => w'.cell? ⟨3, 0, none⟩ = some (.int .i64 sName.1) ∧ w'.cell? ⟨3, 1, none⟩ = some (.string (tx sName.2)) ∧ w'.cell? ⟨4, 0, none⟩ = some (.int .i64 sCon.1) ∧ w'.cell? ⟨4, 1, none⟩ = some (.string (tx sCon.2)) ∧ w'.cell? ⟨5, 0, none⟩ = some (.int .i64 sNum.1) ∧ w'.cell? ⟨5, 1, none⟩ = some (.string (tx sNum.2)) ∧ w'.cell? ⟨6, 0, none⟩ = some (.int .i64 sBack.1) ∧ w'.cell? ⟨6, 1, none⟩ = some (.string (tx sBack.2)) ∧ w'.cell? ⟨7, 0, none⟩ = some (.int .i64 sOpen.1) ∧ w'.cell? ⟨7, 1, none⟩ = some (.string (tx sOpen.2))) (by kernel_rfl) (HSp.out _ HR4.out.2.2) (fun hHeld => ?_)
 refine wpAnyH_take (i := 0) (oi := _) (v := ?_) rfl (by kernel_rfl) (by kernel_rfl) (by kernel_rfl) (fun _ _ _ h => h) (Or.inl ⟨by rfl, ?_⟩) (by assumption) ?_
 rotate_left
 ·intro w hSw
  try dsimp only at hSw
  go_simp <;> with_reducible rfl
 try simp only [Act.put, List.setIfInBounds_toArray]
 refine wpAnyH_take (i := 2) (oi := _) (v := ?_) rfl (by kernel_rfl) (by kernel_rfl) (by kernel_rfl) (fun _ _ _ h => h) (Or.inl ⟨by rfl, ?_⟩) (by assumption) ?_
 rotate_left
 ·intro w hSw
  try dsimp only at hSw
  go_simp <;> with_reducible rfl
 try simp only [Act.put]
 refine wpAnyH_take (i := 3) (oi := _) (v := ?_) rfl (by kernel_rfl) (by kernel_rfl) (by kernel_rfl) (fun _ _ _ h => h) (Or.inl ⟨by rfl, ?_⟩) (by assumption) ?_
 rotate_left
 ·intro w hSw
  try dsimp only at hSw
  go_simp <;> with_reducible rfl
 try simp only [Act.put]
 refine wpAnyH_take (i := 6) (oi := _) (v := ?_) rfl (by kernel_rfl) (by kernel_rfl) (by kernel_rfl) (fun _ _ _ h => h) (Or.inl ⟨by rfl, ?_⟩) (by assumption) ?_
 rotate_left
 ·intro w hSw
  try dsimp only at hSw
  go_simp <;> with_reducible rfl
 try simp only [Act.put]
 refine wpAnyH_take (i := 7) (oi := _) (v := ?_) rfl (by kernel_rfl) (by kernel_rfl) (by kernel_rfl) (fun _ _ _ h => h) (Or.inl ⟨by rfl, ?_⟩) (by assumption) ?_
 rotate_left
 ·intro w hSw
  try dsimp only at hSw
  go_simp <;> with_reducible rfl
 try simp only [Act.put]
 refine wpAnyH_take (i := 10) (oi := _) (v := ?_) rfl (by kernel_rfl) (by kernel_rfl) (by kernel_rfl) (fun _ _ _ h => h) (Or.inl ⟨by rfl, ?_⟩) (by assumption) ?_
 rotate_left
 ·intro w hSw
  try dsimp only at hSw
  go_simp <;> with_reducible rfl
 try simp only [Act.put]
 refine wpAnyH_take (i := 11) (oi := _) (v := ?_) rfl (by kernel_rfl) (by kernel_rfl) (by kernel_rfl) (fun _ _ _ h => h) (Or.inl ⟨by rfl, ?_⟩) (by assumption) ?_
 rotate_left
 ·intro w hSw
  try dsimp only at hSw
  go_simp <;> with_reducible rfl
 try simp only [Act.put]
 refine wpAnyH_take (i := 12) (oi := _) (v := ?_) rfl (by kernel_rfl) (by kernel_rfl) (by kernel_rfl) (fun _ _ _ h => h) (Or.inl ⟨by rfl, ?_⟩) (by assumption) ?_
 rotate_left
 ·intro w hSw
  try dsimp only at hSw
  go_simp <;> with_reducible rfl
 try simp only [Act.put]
 refine wpAnyH_take (i := 14) (oi := _) (v := ?_) rfl (by kernel_rfl) (by kernel_rfl) (by kernel_rfl) (fun _ _ _ h => h) (Or.inl ⟨by rfl, ?_⟩) (by assumption) ?_
 rotate_left
 ·intro w hSw
  try dsimp only at hSw
  go_simp <;> with_reducible rfl
 try simp only [Act.put]
 refine wpAnyH_take (i := 15) (oi := _) (v := ?_) rfl (by kernel_rfl) (by kernel_rfl) (by kernel_rfl) (fun _ _ _ h => h) (Or.inl ⟨by rfl, ?_⟩) (by assumption) ?_
 rotate_left
 ·intro w hSw
  try dsimp only at hSw
  go_simp <;> with_reducible rfl
 try simp only [Act.put]
 refine wpAnyH_take (i := 18) (oi := _) (v := ?_) rfl (by kernel_rfl) (by kernel_rfl) (by kernel_rfl) (fun _ _ _ h => h) (Or.inl ⟨by rfl, ?_⟩) (by assumption) ?_
 rotate_left
 ·intro w hSw
  try dsimp only at hSw
  go_simp <;> with_reducible rfl
 try simp only [Act.put]
 refine wpAnyH_take (i := 19) (oi := _) (v := ?_) rfl (by kernel_rfl) (by kernel_rfl) (by kernel_rfl) (fun _ _ _ h => h) (Or.inl ⟨by rfl, ?_⟩) (by assumption) ?_
 rotate_left
 ·intro w hSw
  try dsimp only at hSw
  go_simp <;> with_reducible rfl
 try simp only [Act.put]
 refine wpAnyH_take (i := 20) (oi := _) (v := ?_) rfl (by kernel_rfl) (by kernel_rfl) (by kernel_rfl) (fun _ _ _ h => h) (Or.inl ⟨by rfl, ?_⟩) (by assumption) ?_
 rotate_left
 ·intro w hSw
  try dsimp only at hSw
  go_simp <;> with_reducible rfl
 try simp only [Act.put]
 clear hHeld
 refine region9L (by kernel_rfl) w.heap.size W3.drew _ 37 40 43 49 (by kernel_rfl) (by kernel_rfl) ⟨_, rfl, by kernel_rfl, by kernel_rfl, fun _ _ _ _ => by kernel_rfl⟩
  ⟨_, .tmp 39, _, rfl, by kernel_rfl, rfl, fun _ _ _ _ => by kernel_rfl, fun _ _ _ _ => by kernel_rfl⟩
  ⟨_, .tmp 42, _, rfl, by kernel_rfl, rfl, fun _ _ _ _ => by kernel_rfl, fun _ _ _ _ => by kernel_rfl⟩
  ⟨_, .tmp 48, _, rfl, by kernel_rfl, rfl, fun _ _ _ _ => by kernel_rfl, fun _ _ _ _ => by kernel_rfl⟩
  ⟨_, .tmp 37, .tmp 38, .tmp 40, rfl, by kernel_rfl, by kernel_rfl, by kernel_rfl, fun _ _ _ _ => ⟨by kernel_rfl, by kernel_rfl, by kernel_rfl⟩⟩
  ⟨_, .tmp 37, .tmp 41, .tmp 43, rfl, by kernel_rfl, by kernel_rfl, by kernel_rfl, fun _ _ _ _ => ⟨by kernel_rfl, by kernel_rfl, by kernel_rfl⟩⟩
  ⟨_, .tmp 37, .tmp 44, .tmp 46, rfl, by kernel_rfl, by kernel_rfl, by kernel_rfl, fun _ _ _ _ => ⟨by kernel_rfl, by kernel_rfl, by kernel_rfl⟩⟩
  ⟨_, .tmp 37, .tmp 47, .tmp 49, rfl, by kernel_rfl, by kernel_rfl, by kernel_rfl, fun _ _ _ _ => ⟨by kernel_rfl, by kernel_rfl, by kernel_rfl⟩⟩
  ⟨_, .tmp 37, .tmp 50, .tmp 52, rfl, by kernel_rfl, by kernel_rfl, by kernel_rfl, fun _ _ _ _ => ⟨by kernel_rfl, by kernel_rfl, by kernel_rfl⟩⟩
  (fun w' hb => HSp.out _ (HR4.out.below hb).2.2) ?_
 intro w5 mm v0 v1 v2 v3 es a' hst
 obtain ⟨B, rfl, hb5, hmm, hkf, n1, n2, n3⟩ := hst.done
 have HR5 := Hd (HR4.out.below hb5)
 have HK5 := Hd (Ai hkf (Ai n1 (Ai n2 (Ai n3 (Ai ((HKF3.out.below hdr).below hb5) hmm)))))
 have r4 := HR5.out.2.1.1 4 _ rfl
 have z4 := HR5.out.2.1.2 4
 clear hst hb5 hkf n1 n2 n3 hmm hdr
 simp only [F4, Act.put]
 refine wpAnyH_ready (rs := [22]) (by kernel_rfl) (by simp) ?_
 refine AllReadyH.cons (o := _) rfl (fun K hK => ?_) AllReadyH.nil
 go_simp
 refine hK.out _ _ (HSp.out _ HR5.out.2.2) (fun hHeld2 => ?_)
 clear hK K hHeld2
 try simp only [List.setIfInBounds_toArray, List.set_cons_zero, List.set_cons_succ]
 refine wpAnyH_ready (rs := [23]) (by kernel_rfl) (by simp) ?_
 refine AllReadyH.cons (o := _) rfl (fun K hK => ?_) AllReadyH.nil
 go_simp
 refine hK.out _ _ (HSp.out _ HR5.out.2.2) (fun hHeld2 => ?_)
 clear hK K hHeld2
 try simp only [List.setIfInBounds_toArray, List.set_cons_zero, List.set_cons_succ]
 refine wpAnyH_ready (rs := [24]) (by kernel_rfl) (by simp) ?_
 refine AllReadyH.cons (o := _) rfl (fun K hK => ?_) AllReadyH.nil
 go_simp
 refine hK.out _ _ (HSp.out _ HR5.out.2.2) (fun hHeld2 => ?_)
 clear hK K hHeld2
 try simp only [List.setIfInBounds_toArray, List.set_cons_zero, List.set_cons_succ]
 have HR6 := Hd (show ReaderAt w a T c (w5.setCell ⟨w.heap.size, 4, none⟩ (.map (some mm))) (.map (some W.heap.size)) (.map (some mm)) from ⟨below_new HR5.out.1 _ _ _ Nr, HR5.out.2.1.set 4 (show 4 < 5 by decide) _, HR5.out.2.2.later (set_grown _ _ _ _)⟩)
 refine wpAnyH_ready (rs := [25]) (by kernel_rfl) (by simp) ?_
 refine AllReadyH.cons (o := _) rfl (fun K hK => ?_) AllReadyH.nil
 go_simp
 refine hK.out _ _ (HSp.out _ HR6.out.2.2) (fun hHeld2 => ?_)
 clear hK K hHeld2
 try simp only [List.setIfInBounds_toArray, List.set_cons_zero, List.set_cons_succ]
 refine wpAnyH_done (by kernel_rfl) ?_ _
 have hgs := set_grown w5 w.heap.size 4 (.map (some mm))
 have hszd : W3.drew.heap.size = W3.heap.size := rfl
 obtain ⟨hkf, n1, n2, n3, hke, hmm⟩ := HK5.out
 have hbx : ∀ {k : Int} {gk gr : Nat}, NamerAt w5 W3.drew.heap.size w.heap.size k (namer gk gr) → BoxAt (w5.setCell ⟨w.heap.size, 4, none⟩ (.map (some mm))) w.heap.size gk gr k := by
  rintro k gk gr ⟨gk', gr', e, h1, h2, h3, h4⟩
  cases e
  exact ⟨hgs.cell h1 (by simp; omega), hgs.cell h2 (by simp; omega), by omega, by omega⟩
 have HF := Hd (show Ctx (w5.setCell ⟨w.heap.size, 4, none⟩ (.map (some mm))) w.heap.size W.heap.size mm B ∧ Rdr (w5.setCell ⟨w.heap.size, 4, none⟩ (.map (some mm))) w.heap.size W.heap.size mm 1 T 0 from
  ⟨⟨HR6.out.2.2, hke.later hgs (by omega), hkf.later hgs (by omega), by omega, by omega, hbx n1, hbx n2, hbx n3⟩,
   ⟨⟨_, HR6.out.2.1.1 0 _ rfl, HT.out.later (grown_of HR6.out.1)⟩, HR6.out.2.1.1 1 _ rfl, HR6.out.2.1.1 2 _ rfl, HR6.out.2.1.1 3 _ rfl, HR6.out.2.1.1 4 _ rfl, HR6.out.2.1.2⟩⟩)
 clear r4 z4 hgs hkf n1 n2 n3 hke hbx hszd
 generalize (w5.setCell ⟨w.heap.size, 4, none⟩ (.map (some mm))) = W6 at *
 go_wp2_with fail
 refine bodyPost_ret (v := .pointer (some ⟨w.heap.size, 0, none⟩)) (by simp [results, Tryz.results25, go_sem]) rfl ?_
 exact ⟨_, mm, B, rfl, HF.out.1, HF.out.2, HR6.out.1⟩
end Go.Proofs.YtbnmmbjajheedaaGreatDoor
namespace Go.Proofs.YtbnmmbjajheedaaGreatDoor
set_option maxHeartbeats 64000000
set_option maxRecDepth 100000
open Go.RowKit
open Go.Lib (NumEnd parseIntB itoa)
def printL (f : Bool) (x : Int) : List UInt8 := if f = true then fltL x.toNat else itoa (wrap64 x)
theorem U_range (v : Int) : 0 ≤ U v ∧ U v < 18446744073709551616 := by rw [U_eq]; omega
theorem back (l : List UInt8) (b : Bool) (y : Int) (h : parseL l = (b, y, 0)) : 0 ≤ y ∧ y < 18446744073709551616 ∧ printL b y = l := by
 unfold parseL at h
 split at h
 ·rename_i hp
  split at h
  ·rename_i hx
   simp only [Prod.mk.injEq] at h
   obtain ⟨rfl, rfl, _⟩ := h
   obtain ⟨e1, e2⟩ := hex_back (l.drop 2) hx.1 hx.2
   refine ⟨by omega, by omega, ?_⟩
   show fltL ((hexN 0 (l.drop 2) : Nat) : Int).toNat = l
   rw [Int.toNat_natCast, e2]
   have hp' : List.isPrefixOf [48, 102] l = true := hp
   obtain ⟨t, ht⟩ := List.isPrefixOf_iff_prefix.1 hp'
   rw [← ht]; rfl
  ·simp at h
 ·split at h
  ·rename_i hf
   cases hv : parseIntB 64 l with
   | ok v =>
    rw [hv] at h
    simp only [Prod.mk.injEq] at h
    obtain ⟨rfl, rfl, _⟩ := h
    obtain ⟨b1, b2⟩ := Lib.parseIntB_bounds hv
    refine ⟨(U_range v).1, (U_range v).2, ?_⟩
    show itoa (wrap64 (U v)) = l
    rw [wrap64_U v ⟨by simpa using b1, by have := b2; simp at this; omega⟩]
    exact int_back l v hf hv
   | range => rw [hv] at h; simp at h
   | _ => rw [hv] at h; simp at h
  ·simp at h
end Go.Proofs.YtbnmmbjajheedaaGreatDoor
