/- signAhead. -/
import Derived.Test.YtkeeglpbhjnmdaaDoorLxE
namespace Go.Proofs.YtkeeglpbhjnmdaaDoor
open Go.RowKit Go.Lib

def SignSaid (l : List UInt8) (w : World) (e : Ending) (w' : World) : Prop :=
  (∃ x, signL l = some x ∧ e = .returned (.tuple #[.agg #[.string x.1, .int .i64 x.2], .bool true]) ∧ Below w.heap.size w w') ∨ (signL l = none ∧ e = .returned (.tuple #[.agg #[.string ⟨#[]⟩, .int .i64 0], .bool false]) ∧ Below w.heap.size w w')

theorem set2 {W : World} {b : Nat} {u0 u1 : Value} (h0 : W.cell? ⟨b, 0, none⟩ = some u0) (h1 : W.cell? ⟨b, 1, none⟩ = some u1) (v0 v1 : Value) :
    ((W.setCell ⟨b, 0, none⟩ v0).setCell ⟨b, 1, none⟩ v1).cell? ⟨b, 0, none⟩ = some v0 ∧ ((W.setCell ⟨b, 0, none⟩ v0).setCell ⟨b, 1, none⟩ v1).cell? ⟨b, 1, none⟩ = some v1 := by
  have o : ∀ (W : World) (i j : Nat) (v : Value), i ≠ j → (W.setCell ⟨b, i, none⟩ v).cell? ⟨b, j, none⟩ = W.cell? ⟨b, j, none⟩ := fun W i j v h => World.cell?_setCell_other _ _ _ _ (by first | (intro e; cases e; exact h rfl) | simp [h])
  refine ⟨?_, ?_⟩
  · rw [o _ _ _ _ (by decide)]
    exact World.cell?_setCell_same _ _ _ h0
  · exact World.cell?_setCell_same _ _ _ (u := u1) (by rw [o _ _ _ _ (by decide)]; exact h1)

set_option maxHeartbeats 8000000 in
set_option maxRecDepth 100000 in
theorem sign_any (s : ByteArray) (w : World) (hS : SG w) : Calls Tryd.prog 24 #[.string s] w (SignSaid s.data.toList w) := by
  have hx0 := (Below.refl w.heap.size w).alloc (Nat.le_refl _) (.cells #[.string ⟨#[]⟩, .int .i64 0] 56)
  have hld := Lib.hid (hS.below hx0)
  have hpk := Lib.hid pick_sign
  have HB0 := Lib.hid hx0
  have u0 : (w.alloc (.cells #[.string ⟨#[]⟩, .int .i64 0] 56)).cell? ⟨w.heap.size, 0, none⟩ = some (.string ⟨#[]⟩) := by simp [go_sem]
  have u1 : (w.alloc (.cells #[.string ⟨#[]⟩, .int .i64 0] 56)).cell? ⟨w.heap.size, 1, none⟩ = some (.int .i64 0) := by simp [go_sem]
  have uz : ∀ j, (w.alloc (.cells #[.string ⟨#[]⟩, .int .i64 0] 56)).frozen? ⟨w.heap.size, j, none⟩ = false := fun j => by simp
  have HU := Lib.hid (And.intro u0 (And.intro u1 uz))
  have hz0 : (w.alloc (.cells #[.string ⟨#[]⟩, .int .i64 0] 56)).heap.size = w.heap.size + 1 := by simp
  clear hx0 hS u0 u1 uz
  go_enter Tryd.func24, Tryd.ntmps24
  go_upto_region 1 with fail
  generalize (w.alloc (.cells #[.string ⟨#[]⟩, .int .i64 0] 56)) = W at *
  go_wp2_with (refine wpList_load_mid rfl 67 (.global 0) rfl 0 0 rfl sgL (.array 21 56) hld.out (by kernel_rfl) rfl (by kernel_rfl) ?_; generalize Value.agg sgL.toArray = tv at *)
  clear hld
  go_loopw [7] (fun s7 wr => ∃ k : Nat, k ≤ 21 ∧ s7 = .int .i64 k ∧ Below W.heap.size W wr ∧ signL s.data.toList = (signsB.drop k).find? fun x => hasPrefix s.data.toList x.1.data.toList) (fun s7 _ => 21 - (RowKit.intOf s7).toNat)
  case atStart => exact ⟨0, Nat.zero_le _, rfl, Below.refl _ _, rfl⟩
  case round =>
    obtain ⟨k, hk, rfl, hb, hf⟩ := hrel
    have d0 := later' hb HU.out.1
    have d1 := later' hb HU.out.2.1
    have dz : ∀ j, wr.frozen? ⟨w.heap.size, j, none⟩ = false := fun j => (World.frozen?_of_block (w := W) (hb.block _ (by simp only; omega))).trans (HU.out.2.2 j)
    have HF := Lib.hid (And.intro hb hf)
    clear hb hf
    by_cases hlt : k < 21
    · have hlt' : (k : Int) < 21 := by omega
      obtain ⟨f1, f2⟩ := find_drop s.data.toList k hlt HF.out.2
      have hp := hpk.out k hlt
      generalize signsB[k]'hlt = sg at *
      obtain ⟨t, kd⟩ := sg
      simp only at hp f1 f2
      have HP := Lib.hid (fun W => Tryd.strings_HasPrefix s t W)
      have HFF := Lib.hid (And.intro f1 f2)
      have hx := (Below.refl wr.heap.size wr).alloc (Nat.le_refl _) (.cells #[.string t, .int .i64 kd] 56)
      have HX := Lib.hid hx
      replace d0 := later' hx d0
      replace d1 := later' hx d1
      have lz := World.block_lt_of_cell? _ _ HU.out.1
      have hsz := HF.out.1.size
      simp only at lz
      replace dz : ∀ j, (wr.alloc (.cells #[.string t, .int .i64 kd] 56)).frozen? ⟨w.heap.size, j, none⟩ = false := fun j => (World.frozen?_of_block (w := wr) (hx.block _ (by simp only; omega))).trans (dz j)
      have c0 : (wr.alloc (.cells #[.string t, .int .i64 kd] 56)).cell? ⟨wr.heap.size, 0, none⟩ = some (.string t) := by simp [go_sem]
      have c1 : (wr.alloc (.cells #[.string t, .int .i64 kd] 56)).cell? ⟨wr.heap.size, 1, none⟩ = some (.int .i64 kd) := by simp [go_sem]
      clear f1 f2 hx
      go_upto_region 4 with fail
      generalize (wr.alloc (.cells #[.string t, .int .i64 kd] 56)) = W4 at *
      go_wp2_with fail
      refine (HP.out W4).mono ?_
      rintro e W5 ⟨rfl, rfl⟩
      cases hpp : hasPrefix s.data.toList t.data.toList with
      | true =>
        have HT := Lib.hid (HFF.out.1 hpp)
        clear hpp
        go_wp2_with fail
        obtain ⟨q0, q1⟩ := set2 d0 d1 (.string t) (.int .i64 kd)
        refine bodyPost_ret (v := .tuple #[.agg #[.string t, .int .i64 kd], .bool true]) (by simp [results, Tryd.results24, go_sem, q0, q1]) rfl ?_
        exact Or.inl ⟨_, HT.out, rfl, ((onB' (onB' HB0.out HF.out.1) HX.out).setCell (Nat.le_refl _) _).setCell (Nat.le_refl _) _⟩
      | false =>
        have HT := Lib.hid (HFF.out.2 hpp)
        clear hpp
        go_wp2_with fail
        exact ⟨⟨k + 1, by omega, by go_num, onB' HF.out.1 HX.out, HT.out⟩, by simp [RowKit.intOf]; omega⟩
    · obtain rfl : k = 21 := by omega
      have hn : signL s.data.toList = none := HF.out.2
      have HN := Lib.hid hn
      clear hn
      go_wp2_with fail
      obtain ⟨q0, q1⟩ := set2 d0 d1 (.string ⟨#[]⟩) (.int .i64 0)
      refine bodyPost_ret (v := .tuple #[.agg #[.string ⟨#[]⟩, .int .i64 0], .bool false]) (by simp [results, Tryd.results24, go_sem, q0, q1]) rfl ?_
      exact Or.inr ⟨HN.out, rfl, ((onB' HB0.out HF.out.1).setCell (Nat.le_refl _) _).setCell (Nat.le_refl _) _⟩

end Go.Proofs.YtkeeglpbhjnmdaaDoor
