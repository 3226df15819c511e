/- StackOrder, walked. -/
import Derived.Test.YtalfhcmccdnajaaSkP
import Derived.Test.YtalfhcmccdnajaaSkN
import Derived.Test.YtalfhcmccdnajaaSkL
import Derived.BigQuiet
import Derived.Deep.QuietTactic
namespace Go.Proofs.Ytalfhcmccdnajaa
open Go.RowKit Go.Sort

theorem St.move2 {W W' : World} {p left : Nat} {room : Int} {v : Value} {L : List Fr} (h : St W p room v L left) (hp : W'.heap[p]? = W.heap[p]?) (hv : ∀ g, v.ownBlock = some g → W'.heap[g]? = W.heap[g]?) (hw : ∀ f, f ∈ L → WAt (fun g => g ≠ p ∧ some g ≠ v.ownBlock) W' f) : St W' p room v L left :=
  ⟨(World.cell?_of_block (w := W) hp).trans h.c0, (World.cell?_of_block (w := W) hp).trans h.c1, (World.cell?_of_block (w := W) hp).trans h.c2, (World.cell?_of_block (w := W) hp).trans h.c3,
    (World.frozen?_of_block (w := W) hp).trans h.z1, (World.frozen?_of_block (w := W) hp).trans h.z2, (World.frozen?_of_block (w := W) hp).trans h.z3, h.fs.move hv, h.ne, hw, h.le, h.r0, h.r1, h.us⟩
theorem WAt.both {K K' : Nat → Prop} {W : World} {f : Fr} (h : WAt K W f) (h' : WAt K' W f) : WAt (fun g => K g ∧ K' g) W f := by
  refine ⟨h.1, fun h0 => ?_⟩
  obtain ⟨g, o, h1, h2, h3, h4, h5⟩ := h.2 h0
  obtain ⟨g', o', h1', h2', h3', h4', h5'⟩ := h'.2 h0
  rw [h1] at h1'
  simp only [Option.some.injEq, Addr.mk.injEq, and_true] at h1'
  obtain ⟨rfl, rfl⟩ := h1'
  exact ⟨g, o, h1, h2, h3, ⟨h4, h4'⟩, h5⟩
/-- A row that is not the stack's has grown. -/
theorem Mid.grown {w W W' : World} {p left : Nat} {room : Int} {v : Value} {L : List Fr} {o : Option Nat} (h : Mid w p room v L left W) (hg : W.grownBy W' o) (ho : ∀ g, o = some g → w.heap.size ≤ g ∧ Off g p v) (hw : ∀ f, f ∈ L → WAt (fun g => some g ≠ o) W f) : Mid w p room v L left W' := by
  have hB := h.below.size
  refine ⟨h.st.move2 (hg.block p h.st.lp (fun e => (ho p e.symm).2.1 rfl)) (fun g hv => hg.block g (h.st.fs.lt g hv) (fun e => (ho g e.symm).2.2 hv.symm)) (fun f hf => ((h.st.ws f hf).both (hw f hf)).move (fun g hl hk => ⟨hk.1, hg.block g hl hk.2⟩) hg.size), h.below.grown hg hB (fun g hv => (ho g hv).1), h.lp, h.lo⟩

/-- The stack, and the row of what went in. -/
structure Ord (w : World) (p : Nat) (room : Int) (v : Value) (L : List Fr) (W : World) (vi : Value) (I : List Fr) : Prop where
  mid : Mid w p room v L 0 W
  fs : FsAt W vi I
  off : ∀ g, vi.ownBlock = some g → w.heap.size ≤ g ∧ Off g p v
  eq : I.map Fr.told = L.map Fr.told
  ws : ∀ f, f ∈ I → WAt (fun _ => True) w f
  lw : ∀ f, f ∈ L → WAt (fun g => some g ≠ vi.ownBlock) W f
section
variable {w W W' : World} {p : Nat} {room : Int} {v vi : Value} {L I : List Fr}
theorem Ord.later (h : Ord w p room v L W vi I) (hb : Below W.heap.size W W') : Ord w p room v L W' vi I :=
  ⟨h.mid.later hb, h.fs.move (fun g hg => hb.block g (h.fs.lt g hg)), h.off, h.eq, h.ws, fun f hf => (h.lw f hf).move (fun g hg hk => ⟨hk, hb.block g hg⟩) hb.size⟩
theorem Ord.len (h : Ord w p room v L W vi I) : I.length = L.length := by have := congrArg List.length h.eq; simpa using this
/-- One more, pushed and noted. -/
theorem Ord.more {W9 : World} {v9 : Value} {f f' : Fr} {o : Obj} (h : Ord w p room v L W vi I) (hd : Did p room v W (L ++ [f']) 0 W') (hw' : WAt (fun x => W.heap.size ≤ x) W' f') (ht : f'.told = f.told) (hf : WAt (fun _ => True) w f)
    (h1 : FsAt W9 v9 (I ++ [f])) (h2 : (W'.alloc o).grownBy W9 vi.ownBlock) (h3 : v9.ownBlock = vi.ownBlock ∨ v9.ownBlock = some (W'.alloc o).heap.size) : ∃ v', Ord w p room v' (L ++ [f']) W9 v9 (I ++ [f]) := by
  obtain ⟨v', hM, hW⟩ := h.mid.did hd
  have hs := hW.1.size
  have hb : Below W'.heap.size W' (W'.alloc o) := (Below.refl _ _).alloc (Nat.le_refl _) _
  have hz : (W'.alloc o).heap.size = W'.heap.size + 1 := World.size_alloc ..
  have hM2 := hM.later hb
  have hlt := h.fs.lt
  have hoff : ∀ g, vi.ownBlock = some g → w.heap.size ≤ g ∧ Off g p v' := fun g hg => ⟨(h.off g hg).1, ((h.off g hg).2.went hW (hlt g hg)).1⟩
  have hlw : ∀ x, x ∈ L ++ [f'] → WAt (fun g => some g ≠ vi.ownBlock) (W'.alloc o) x := fun x hx => by
    rcases List.mem_append.1 hx with hx | hx
    · have h9 := ((h.mid.st.ws x hx).both (h.lw x hx)).move (W' := W') (K' := fun g => some g ≠ vi.ownBlock) (fun g hl hk => ⟨hk.2, hW.1.block g hl hk.1.1 hk.1.2⟩) hs
      exact h9.move (fun g hl hk => ⟨hk, hb.block g hl⟩) hb.size
    · simp only [List.mem_singleton] at hx
      subst hx
      exact hw'.move (fun g hl hk => ⟨fun e => by have := hlt g e.symm; omega, hb.block g hl⟩) hb.size
  refine ⟨v', hM2.grown h2 hoff hlw, h1, fun g hg => ?_, ?_, fun x hx => ?_, fun x hx => ?_⟩
  · rcases h3 with e | e
    · exact hoff g (e ▸ hg)
    · rw [e] at hg
      have hg' := Option.some.inj hg
      have hB := hM2.below.size
      exact ⟨by omega, off_new hM2 (by omega)⟩
  · rw [List.map_append, List.map_append, h.eq]; simp [ht]
  · rcases List.mem_append.1 hx with hx | hx
    · exact h.ws x hx
    · simp only [List.mem_singleton] at hx; subst hx; exact hf
  · have h9 := hlw x hx
    refine h9.move (fun g hl hk => ⟨fun e => ?_, h2.block g hl hk⟩) h2.size
    rcases h3 with e' | e'
    · exact hk (e.trans e')
    · have := Option.some.inj (e.trans e'); omega
/-- Nothing pushed. -/
theorem Ord.same (h : Ord w p room v L W vi I) (hd : Did p room v W L 0 W') : ∃ v', Ord w p room v' L W' vi I := by
  obtain ⟨v', hM, hW⟩ := h.mid.did hd
  exact ⟨v', hM, h.fs.move (fun g hg => ((h.off g hg).2.went hW (h.fs.lt g hg)).2), fun g hg => ⟨(h.off g hg).1, ((h.off g hg).2.went hW (h.fs.lt g hg)).1⟩, h.eq, h.ws, fun x hx => ((h.mid.st.ws x hx).both (h.lw x hx)).move (fun g hl hk => ⟨hk.2, hW.1.block g hl hk.1.1 hk.1.2⟩) hW.1.size⟩
/-- One taken off. -/
theorem Ord.less {M : List Fr} (h : Ord w p room v L W vi I) (hd : Did p room v W M 0 W') : ∃ v', Mid w p room v' M 0 W' ∧ FsAt W' vi I ∧ (∀ g, vi.ownBlock = some g → w.heap.size ≤ g ∧ Off g p v') := by
  obtain ⟨v', hM, hW⟩ := h.mid.did hd
  exact ⟨v', hM, h.fs.move (fun g hg => ((h.off g hg).2.went hW (h.fs.lt g hg)).2), fun g hg => ⟨(h.off g hg).1, ((h.off g hg).2.went hW (h.fs.lt g hg)).1⟩⟩
end

theorem sameframe_regrown (k n : Int) (ws : List Int) (a1 : Option Addr) (c1 : Nat) (a2 : Option Addr) (c2 : Nat) (K1 K2 : Nat → Prop) (W : World) (d : Nat) (os : Array Obj) (h1 : WAt K1 W ⟨k, n, ws, a1, c1⟩) (h2 : WAt K2 W ⟨k, n, ws, a2, c2⟩) :
    Calls Try.prog 26 #[.agg #[.int .i64 k, .int .i64 n, .slice a1 ws.length c1], .agg #[.int .i64 k, .int .i64 n, .slice a2 ws.length c2]] (grow (redrawn W d) os) fun e w' => e = .returned (.bool true) ∧ ∃ p : Regrown, w' = grow (redrawn W p.d) p.os :=
  (sameframe_any k n ws a1 c1 a2 c2 K1 K2 _ (h1.move (fun g hg hk => ⟨hk, (below_regrown W d os).block g hg⟩) (below_regrown W d os).size) (h2.move (fun g hg hk => ⟨hk, (below_regrown W d os).block g hg⟩) (below_regrown W d os).size)).regrown_of

set_option maxHeartbeats 8000000 in
theorem order_out (a0 : Option Addr) (len cap : Nat) (X : Nat → Int) (F : Nat → Fr) (room : Int) (w : World) (hA : Acts w a0 len X F) (h : ¬ (Few len F ∧ 0 ≤ room ∧ room ≤ 4096)) :
    Calls Try.prog 6 #[.slice a0 len cap, .int .i64 room] w fun e w' => e = .returned (.bool true) ∧ Below w.heap.size w w' := by
  by_cases hf : Few len F
  · by_cases h0 : room < 0
    · clear h
      go_enter Try.func6, Try.ntmps6
      go_wp2_with fail
      refine (awake_any _).mono ?_
      rintro e w1 ⟨rfl, hB⟩
      have HB := Lib.hid hB
      clear hB
      go_wp2_with fail
      refine (few_true a0 len cap X F w _ hA HB.out hf).mono ?_
      rintro e w2 ⟨rfl, rfl⟩
      go_wp2_with fail
      go_ret
      exact ⟨rfl, HB.out⟩
    · have h1 : room > 4096 := by
        rcases Int.lt_or_le 4096 room with h1 | h1
        · exact h1
        · exact absurd ⟨hf, by omega, h1⟩ h
      clear h
      go_enter Try.func6, Try.ntmps6
      go_wp2_with fail
      refine (awake_any _).mono ?_
      rintro e w1 ⟨rfl, hB⟩
      have HB := Lib.hid hB
      clear hB
      go_wp2_with fail
      refine (few_true a0 len cap X F w _ hA HB.out hf).mono ?_
      rintro e w2 ⟨rfl, rfl⟩
      go_wp2_with fail
      go_ret
      exact ⟨rfl, HB.out⟩
  · clear h
    go_enter Try.func6, Try.ntmps6
    go_wp2_with fail
    refine (awake_any _).mono ?_
    rintro e w1 ⟨rfl, hB⟩
    have HB := Lib.hid hB
    clear hB
    go_wp2_with fail
    refine (few_false a0 len cap X F w _ hA HB.out hf).mono ?_
    rintro e w2 ⟨rfl, rfl⟩
    go_wp2_with fail
    go_ret
    exact ⟨rfl, HB.out⟩

/-- The rows on the way back. -/
def Back (w : World) (p : Nat) (room : Int) (L : List Fr) (vi : Value) (I : List Fr) (j : Nat) (W : World) : Prop :=
  ∃ v, Mid w p room v (L.take j) 0 W ∧ FsAt W vi I ∧ ∀ g, vi.ownBlock = some g → w.heap.size ≤ g ∧ Off g p v
theorem told_inj {f g : Fr} (h : f.told = g.told) : f.k = g.k ∧ f.n = g.n ∧ f.ws = g.ws := by
  simp only [Fr.told, Prod.mk.injEq] at h
  exact h

set_option maxHeartbeats 16000000 in
theorem order_in (a0 : Option Addr) (len cap : Nat) (X : Nat → Int) (F : Nat → Fr) (room : Int) (w : World) (hA : Acts w a0 len X F) (hf : Few len F) (r0 : 0 ≤ room) (r1 : room ≤ 4096) :
    Calls Try.prog 6 #[.slice a0 len cap, .int .i64 room] w fun e w' => e = .returned (.bool true) ∧ Below w.heap.size w w' := by
  have HA := Lib.hid (And.intro hA hf)
  have HR := Lib.hid (And.intro r0 r1)
  have hl : len ≤ 100 := hf.1
  have g1 : ¬ room < 0 := by omega
  have g2 : ¬ room > 4096 := by omega
  clear hA hf r0 r1
  go_enter Try.func6, Try.ntmps6
  go_wp2_with fail
  refine (awake_any _).mono ?_
  rintro e w1 ⟨rfl, hB⟩
  have HB := Lib.hid hB
  clear hB
  go_wp2_with fail
  refine (few_true a0 len cap X F w _ HA.out.1 HB.out HA.out.2).mono ?_
  rintro e w2 ⟨rfl, rfl⟩
  go_wp2_with fail
  refine (new_in room HR.out.1 HR.out.2 _).mono ?_
  rintro e w3 ⟨p, v, rfl, hS, hB3, hp, hv⟩
  have HO : Hid (Ord w p room v [] w3 (.slice none 0 0) []) := ⟨⟨hS, HB.out.trans (hB3.mono HB.out.size), by have := HB.out.size; omega, fun g hg => by rw [hv] at hg; cases hg⟩, Or.inl ⟨rfl, rfl⟩, fun g hg => (by cases hg), rfl, fun f hf => by simp at hf, fun f hf => by simp at hf⟩
  clear hS hB3 hp hv g1 g2 HB
  go_wp2_with fail
  go_loopw [7, 8, 9] (fun s7 s8 s9 wr => ∃ (k : Nat) (vi v : Value) (L I : List Fr), vi = s7 ∧ k ≤ len ∧ s8 = .int .i64 (used L) ∧ s9 = .int .i64 k ∧ Ord w p room v L wr vi I) (fun _ _ s9 _ => len - (RowKit.intOf s9).toNat)
  case atStart => exact ⟨0, _, _, [], [], rfl, Nat.zero_le _, rfl, rfl, HO.out⟩
  case round =>
    clear HO
    obtain ⟨k, vi, v, L, I, rfl, hk, rfl, rfl, hO⟩ := hrel
    have HO := Lib.hid hO
    have hus := Lib.hid (show 0 ≤ used L ∧ used L ≤ 4096 by have h1 := hO.mid.st.us; have h2 := used_len L; have h3 := HR.out; omega)
    clear hO
    by_cases hlt : k < len
    · obtain ⟨b, off, rfl, hbl, hc⟩ := HA.out.1.at_ (by omega)
      obtain ⟨-, d1, d2, d3⟩ := hc k hlt
      have HC := Lib.hid (And.intro hbl (And.intro d1 (And.intro d2 d3)))
      have hw := HA.out.1.ws k hlt
      have hwl := HA.out.2.2 k hlt
      generalize F k = f at d1 d2 d3 hw hwl HC
      have HW := Lib.hid (And.intro hw hwl)
      replace d1 := (HO.out.mid.below.cell (p := ⟨b, off + k * 4 + 1, none⟩) hbl).trans d1
      replace d2 := (HO.out.mid.below.cell (p := ⟨b, off + k * 4 + 2, none⟩) hbl).trans d2
      replace d3 := (HO.out.mid.below.cell (p := ⟨b, off + k * 4 + 3, none⟩) hbl).trans d3
      clear hc hw hbl
      obtain ⟨U, hU⟩ : ∃ U, U = used L := ⟨_, rfl⟩
      rw [← hU] at hus ⊢
      have HU := Lib.hid hU
      clear hU
      have hsum : IntKind.i64.wrap (U + ((f.ws.length : Int) + 2)) = U + ((f.ws.length : Int) + 2) := by rw [IntKind.wrap_i64]; have := hus.out; have := HW.out.2; omega
      by_cases hfit : U + ((f.ws.length : Int) + 2) ≤ room
      · have HF := Lib.hid hfit
        go_wp2_with fail
        refine (push_in p 0 room v L f.k f.n f.a f.c f.ws (fun _ => True) wr HO.out.mid.st (HW.out.1.move (fun g hg _ => ⟨trivial, HO.out.mid.below.block g hg⟩) HO.out.mid.below.size) (by have := HF.out; have := HU.out; omega)).mono ?_
        rintro e w5 ⟨rfl, f', ht, hd, hw'⟩
        obtain ⟨v5, hM5, hW5⟩ := HO.out.mid.did hd
        have e1 := (hM5.below.cell (p := ⟨b, off + k * 4 + 1, none⟩) HC.out.1).trans HC.out.2.1
        have e2 := (hM5.below.cell (p := ⟨b, off + k * 4 + 2, none⟩) HC.out.1).trans HC.out.2.2.1
        have e3 := (hM5.below.cell (p := ⟨b, off + k * 4 + 3, none⟩) HC.out.1).trans HC.out.2.2.2
        have HD := Lib.hid (And.intro ht (And.intro hd (And.intro hw' (And.intro hM5 hW5))))
        clear ht hd hw' hM5 hW5 d1 d2 d3
        go_wp2_with (at_builtin; refine list_push rfl _ _ rfl (w5.alloc (.cells #[.int .i64 f.k, .int .i64 f.n, .slice f.a f.ws.length f.c] TF)) vi I rfl (HO.out.fs.move fun x hx => (Below.heap_alloc _ _ _ (by have h1 := HO.out.fs.lt x hx; have h2 := HD.out.2.2.2.2.1.size; omega)).trans (((HO.out.off x hx).2.went HD.out.2.2.2.2 (HO.out.fs.lt x hx)).2)) (by have h1 := HO.out.len; have h2 := HO.out.mid.st.small; omega) w5.heap.size 1 rfl f (World.news_of_block (heap_alloc_new _ _)) ?_; intro v9 w9 h1 h2 h3; have H9 := Lib.hid (And.intro h1 (And.intro h2 h3)); clear h1 h2 h3)
        go_roundw
        case rel =>
          have hws : f'.ws = f.ws := (told_inj (f := f') (g := f) HD.out.1).2.2
          obtain ⟨v', hO'⟩ := HO.out.more HD.out.2.1 HD.out.2.2.1 HD.out.1 HW.out.1 H9.out.1 H9.out.2.1 H9.out.2.2
          exact ⟨k + 1, _, v', L ++ [f'], I ++ [f], rfl, by omega, by rw [used_append, hws, HU.out], by go_num, hO'⟩
        case measure => simp [RowKit.intOf]; omega
      · have HF := Lib.hid hfit
        go_wp2_with fail
        refine (push_out p 0 room v L f.k f.n f.a f.ws.length f.c wr HO.out.mid.st (by have := HW.out.2; omega) (by have := HF.out; have := HU.out; omega)).mono ?_
        rintro e w5 ⟨rfl, hd⟩
        have HD := Lib.hid hd
        clear hd
        go_wp2_with fail
        go_roundw
        case rel =>
          obtain ⟨v', hO'⟩ := HO.out.same HD.out
          exact ⟨k + 1, _, v', L, I, rfl, by omega, by rw [HU.out], by go_num, hO'⟩
        case measure => simp [RowKit.intOf]; omega
    · obtain rfl : k = len := by omega
      have hlen := HO.out.len
      have hsm := HO.out.mid.st.small
      obtain ⟨m, hm⟩ : ∃ m, m = L.length := ⟨_, rfl⟩
      have HLEN := Lib.hid (And.intro hm (hlen.trans hm.symm))
      obtain ⟨ai, ci, hvi⟩ := HO.out.fs.sl
      rw [hlen, ← hm] at hvi
      subst hvi
      rw [← hm] at hsm
      clear hm hlen
      go_wp2_with fail
      refine (used_any p 0 room v L _ HO.out.mid.st).mono ?_
      rintro e w5 ⟨rfl, rfl⟩
      go_wp2_with fail
      refine (len_any p 0 room v L _ HO.out.mid.st).mono ?_
      rintro e w6 ⟨rfl, rfl⟩
      rw [← HLEN.out.1]
      go_wp2_with fail
      go_loopw [12] (fun s12 wr => ∃ j : Nat, j ≤ m ∧ s12 = .int .i64 ((j : Int) - 1) ∧ Back w p room L (.slice ai m ci) I j wr) (fun s12 _ => (RowKit.intOf s12 + 1).toNat)
      case atStart => exact ⟨m, Nat.le_refl _, rfl, v, by rw [HLEN.out.1, List.take_of_length_le (Nat.le_refl _)]; exact HO.out.mid, HO.out.fs, HO.out.off⟩
      case round =>
        obtain ⟨j, hj, rfl, hBk⟩ := hrel
        cases j with
        | zero =>
          obtain ⟨v', hM, -⟩ := hBk
          rw [List.take_zero] at hM
          have HM := Lib.hid hM
          clear hM
          go_wp2_with fail
          refine (used_any p 0 room v' [] _ HM.out.st).mono ?_
          rintro e w7 ⟨rfl, rfl⟩
          go_wp2_with fail
          refine (len_any p 0 room v' [] _ HM.out.st).mono ?_
          rintro e w8 ⟨rfl, rfl⟩
          go_wp2_with fail
          refine (left_any p 0 room v' [] _ HM.out.st).mono ?_
          rintro e w9 ⟨rfl, rfl⟩
          go_wp2_with fail
          go_ret
          exact ⟨rfl, HM.out.below⟩
        | succ i =>
          rw [show ((i + 1 : Nat) : Int) - 1 = (i : Int) by omega]
          obtain ⟨v', hM, hfs, hoff⟩ := hBk
          have hiL : i < L.length := by have := HLEN.out.1; omega
          have hiI : i < I.length := by have := HLEN.out.2; omega
          obtain ⟨f, hf⟩ : ∃ f, L[i]? = some f := ⟨_, List.getElem?_eq_getElem hiL⟩
          obtain ⟨⟨fk, fn, fws, fa, fc⟩, hfi⟩ : ∃ fi, I[i]? = some fi := ⟨_, List.getElem?_eq_getElem hiI⟩
          have htold : (⟨fk, fn, fws, fa, fc⟩ : Fr).told = f.told := by
            have h1 := congrArg (fun l => l[i]?) HO.out.eq
            simp only [List.getElem?_map, hf, hfi, Option.map_some, Option.some.injEq] at h1
            exact h1
          obtain ⟨t1, t2, t3⟩ := told_inj htold
          simp only at t1 t2 t3
          subst t1 t2 t3
          rw [show L.take (i + 1) = L.take i ++ [f] by rw [List.take_add_one, hf]; rfl] at hM
          have HM := Lib.hid (And.intro hM (And.intro hfs hoff))
          have HT := Lib.hid hfi
          have hwi := Lib.hid (HO.out.ws _ (List.mem_of_getElem? hfi))
          clear hM hfs hoff hf hfi htold hiL hiI
          have hil : ¬ (L.take i).length < 0 := Nat.not_lt_zero _
          go_wp2_with fail
          refine (pop_some p 0 room v' (L.take i) f _ HM.out.1.st).mono ?_
          rintro e w7 ⟨u, rfl, ⟨g5, rfl, hg2, hg3, hg4, -⟩, hk⟩
          rw [show decide ((L.take i).length < 0) = false from decide_eq_false hil, show min 0 (L.take i).length = 0 from Nat.zero_min _] at *
          obtain ⟨v7, hM7, hW7⟩ := HM.out.1.did hk.did
          have hfs7 := HM.out.2.1.move (fun g hg => ((HM.out.2.2 g hg).2.went hW7 (HM.out.2.1.lt g hg)).2)
          obtain ⟨gI, cI, hvI, hcI1, hcI2, hgI, k0, k1, k2⟩ := hfs7.cell HT.out
          rw [HLEN.out.2] at hvI
          simp only [Value.slice.injEq, true_and] at hvI
          obtain ⟨rfl, rfl⟩ := hvI
          have hb8 : Below w7.heap.size w7 (w7.alloc (.cells #[.int .i64 f.k, .int .i64 f.n, .slice (some ⟨g5, 0, none⟩) f.ws.length f.ws.length] TF)) := (Below.refl _ _).alloc (Nat.le_refl _) _
          have hx := box_cells (w := w7) (u0 := .int .i64 f.k) (u1 := .int .i64 f.n) (u2 := .slice (some ⟨g5, 0, none⟩) f.ws.length f.ws.length) (T := TF)
          have q0 := cell_of_row _ _ 0 _ _ _ hx
          have q1 := cell_of_row _ _ 1 _ _ _ hx
          have q2 := cell_of_row _ _ 2 _ _ _ hx
          have p0 := (World.cell?_of_block (w := w7) (a := ⟨gI, i * 3, none⟩) (hb8.block gI hgI)).trans k0
          have p1 := (World.cell?_of_block (w := w7) (a := ⟨gI, i * 3 + 1, none⟩) (hb8.block gI hgI)).trans k1
          have p2 := (World.cell?_of_block (w := w7) (a := ⟨gI, i * 3 + 2, none⟩) (hb8.block gI hgI)).trans k2
          have HW8 := Lib.hid (And.intro (hM7.later hb8) (And.intro (hfs7.move (fun g hg => hb8.block g (hfs7.lt g hg))) (And.intro (fun g hg => And.intro (HM.out.2.2 g hg).1 ((HM.out.2.2 g hg).2.went hW7 (HM.out.2.1.lt g hg)).1) (And.intro (hg2.move (K' := fun x => x = g5) (fun g hg hk => ⟨hk, hb8.block g hg⟩) hb8.size) (hwi.out.move (K' := fun _ => True) (fun g hg _ => ⟨trivial, (hM7.later hb8).below.block g hg⟩) (hM7.later hb8).below.size)))))
          clear hk hM7 hW7 hfs7 k0 k1 k2 hb8 hx hg2 hg3 hg4 hgI hcI1 hcI2
          have him : (i : Int) < (m : Int) := by omega
          go_wp2_with fail
          generalize w7.alloc (.cells #[.int .i64 f.k, .int .i64 f.n, .slice (some ⟨g5, 0, none⟩) f.ws.length f.ws.length] TF) = W8 at q0 q1 q2 p0 p1 p2 HW8 ⊢
          generalize w7.heap.size = b8 at q0 q1 q2 ⊢
          have k0 := cell_regrown q0
          have k1 := cell_regrown q1
          have k2 := cell_regrown q2
          have k3 := cell_regrown p0
          have k4 := cell_regrown p1
          have k5 := cell_regrown p2
          refine wp_region_quiet_below (by kernel_rfl) (by kernel_rfl) ?_
          repeat (first | go_big_quiet_skip | (quiet_step (exact sameframe_regrown _ _ _ _ _ _ _ _ _ _ _ _ HW8.out.2.2.2.1 HW8.out.2.2.2.2)))
          refine wpQuiet_nil ?_
          intro _ hw'
          obtain ⟨⟨dq, osq⟩, hw''⟩ := hw'
          subst hw''
          clear k0 k1 k2 k3 k4 k5 q0 q1 q2 p0 p1 p2
          have hbq := below_regrown W8 dq osq
          have HBk : Hid (Back w p room L (.slice (some ⟨gI, 0, none⟩) m ci) I i (grow (redrawn W8 dq) osq)) := ⟨v7, HW8.out.1.later hbq, HW8.out.2.1.move (fun g hg => hbq.block g (HW8.out.2.1.lt g hg)), HW8.out.2.2.1⟩
          clear hbq
          show Exit.then _ _ _ _ (grow (redrawn W8 dq) osq)
          generalize grow (redrawn W8 dq) osq = W9 at HBk ⊢
          go_wp2_with fail
          go_roundw
          case rel => exact ⟨i, by omega, by go_num, HBk.out⟩
          case measure => simp [RowKit.intOf]

theorem order_walk (a0 : Option Addr) (len cap : Nat) (X : Nat → Int) (F : Nat → Fr) (room : Int) (w : World) (hA : Acts w a0 len X F) :
    Calls Try.prog 6 #[.slice a0 len cap, .int .i64 room] w fun e w' => e = .returned (.bool true) ∧ Below w.heap.size w w' := by
  by_cases h : Few len F ∧ 0 ≤ room ∧ room ≤ 4096
  · exact order_in a0 len cap X F room w hA h.1 h.2.1 h.2.2
  · exact order_out a0 len cap X F room w hA h

end Go.Proofs.Ytalfhcmccdnajaa
