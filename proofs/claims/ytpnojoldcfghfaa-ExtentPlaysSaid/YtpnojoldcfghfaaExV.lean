/- The document's list of its room: the runs of places that are free. -/
import Derived.Test.YtpnojoldcfghfaaExU
namespace Go.Proofs.Ytpnojoldcfghfaa
open Go.RowKit Go.Sort

theorem flat_inc (A : List (Int × Int)) (a k : Int) (m : Nat) (hm : A.length + 1 = m) : (flat (A ++ [(a, k)])).set ((m - 1) * 2 + 1) (.int .i64 (k + 1)) = flat (A ++ [(a, k + 1)]) := by
  rw [flat_append, flat_append, List.set_append, if_neg (by rw [flat_length]; omega), flat_length, show (m - 1) * 2 + 1 - A.length * 2 = 1 by omega]
  rfl

def Lists (F : Int) (B : Nat → Bool) (n : Nat) (w : World) (e : Ending) (w' : World) : Prop :=
  ∃ R ro c, e = .returned (.slice ro R.length c) ∧ Listed w' ro R ∧ Reads F B n R ∧ Below w.heap.size w w' ∧ (∀ b, ro = some ⟨b, 0, none⟩ → w.heap.size ≤ b)

set_option maxHeartbeats 8000000 in
theorem rlist (p d n cap : Nat) (ao : Option Addr) (F : Int) (B : Nat → Bool) (w : World) (hR : Ref w p d n ao cap F B) (hn : n ≤ 300) (f0 : 0 ≤ F) (f1 : F ≤ 65536) :
    Calls Try.prog 14 #[.pointer (some ⟨p, 0, none⟩)] w (Lists F B n w) := by
  have hf := hR.free
  have hF := hR.first
  have lp := hR.lp
  have ld := hR.ld
  have HD := Lib.hid (And.intro hR.addr hR.data)
  clear hR
  go_enter Try.func14, Try.ntmps14
  go_wp2_with fail
  go_loopw [3, 4] (fun s3 s4 wr => ∃ (k m : Nat) (R : List (Int × Int)), k ≤ n ∧ s4 = .int .i64 k ∧ R.length = m ∧ m ≤ k ∧ wr.ownsRow w.heap.size 45 2 s3 m (flat R) ∧ Reads F B k R ∧ Below w.heap.size w wr) (fun _ s4 _ => n - (intOf s4).toNat)
  case atStart => exact ⟨0, 0, [], Nat.zero_le _, rfl, rfl, Nat.le_refl _, World.ownsRow_nil _ _ _ _, reads_start F B, Below.refl _ _⟩
  case round =>
    obtain ⟨k, m, R, hk, rfl, hm, hmk, hO, hRd, hB⟩ := hrel
    have hfr := (hB.cell (p := ⟨p, 1, none⟩) lp).trans hf
    have hFr := (hB.cell (p := ⟨p, 0, none⟩) lp).trans hF
    have HO := Lib.hid hO
    have HRD := Lib.hid hRd
    have HB := Lib.hid hB
    have HM := Lib.hid hm
    clear hO hRd hB hm
    by_cases hlt : k < n
    · have hlt' : (k : Int) < (n : Int) := by omega
      obtain ⟨rfl, hpd⟩ := HD.out.1 (by omega)
      have c0 := (HB.out.cell (p := ⟨d, k, none⟩) ld).trans (HD.out.2 k hlt)
      cases hb : B k with
      | false =>
        rw [hb] at c0
        have HR2 := Lib.hid (HRD.out.skip hb)
        clear hb
        go_wp2_with fail
        exact ⟨⟨k + 1, m, R, by omega, by go_num, HM.out, by omega, HO.out, HR2.out, HB.out⟩, by simp [intOf]; omega⟩
      | true =>
        rw [hb] at c0
        by_cases hp : 0 < k ∧ B (k - 1) = true
        · obtain ⟨h0, hp⟩ := hp
          obtain ⟨A, a, kk, rfl, k0, k1, hR2⟩ := HRD.out.more hb h0 hp
          have c1 := (HB.out.cell (p := ⟨d, k - 1, none⟩) ld).trans (HD.out.2 (k - 1) (by omega))
          rw [hp] at c1
          have HR2 := Lib.hid hR2
          obtain ⟨g, c, rfl, _, hgl⟩ := HO.out.form (by have := HM.out; simp at this; omega)
          have hm1 : A.length + 1 = m := by have := HM.out; simpa using this
          have d1 : wr.cell? ⟨g, (m - 1) * 2 + 1, none⟩ = some (.int .i64 kk) := by
            rw [World.ownsRow.cellAt HO.out _ (by omega)]
            exact (flat_get (k := m - 1) (x := (a, kk)) (by rw [List.getElem?_append_right (by omega), show m - 1 - A.length = 0 by omega]; rfl)).2
          have dz := World.ownsRow.frozenAt HO.out ((m - 1) * 2 + 1)
          have hst := World.ownsRow.stored HO.out ((m - 1) * 2 + 1) (.int .i64 (kk + 1))
          rw [flat_inc A a kk m hm1] at hst
          have HST := Lib.hid hst
          have i0 : (0 : Int) ≤ (k : Int) - 1 := by omega
          have i1 : (k : Int) - 1 < (n : Int) := by omega
          have i2 : ((k : Int) - 1).toNat = k - 1 := by omega
          have j0 : (0 : Int) ≤ (m : Int) - 1 := by omega
          have j1 : (m : Int) - 1 < (m : Int) := by omega
          have j2 : ((m : Int) - 1).toNat = m - 1 := by omega
          have j3 : IntKind.i64.wrap ((m : Int) - 1) = (m : Int) - 1 := by rw [IntKind.wrap_i64]; omega
          have j4 : IntKind.i64.wrap (kk + 1) = kk + 1 := by rw [IntKind.wrap_i64]; omega
          have hbs := HB.out.size
          have hgb := (HO.out.lt g rfl).1
          clear hst hR2 hp hb hm1
          go_wp2_with fail
          go_region
          all_goals go_wp2_with fail
          all_goals exact ⟨⟨k + 1, m, A ++ [(a, kk + 1)], by omega, by go_num, by have := HM.out; simp at this ⊢; exact this, by omega, HST.out.1, HR2.out, (HB.out.setCell hgb _).drew⟩, by simp [intOf]; omega⟩
        · have HR2 := Lib.hid (HRD.out.new hb (by
            by_cases h0 : k = 0
            · exact Or.inl h0
            · right
              cases h1 : B (k - 1) with
              | false => rfl
              | true => exact absurd ⟨by omega, h1⟩ hp))
          by_cases h0 : k = 0
          · subst h0
            have HR3 : Hid (Reads F B 1 (R ++ [(F, 1)])) := by
              have h := HR2.out
              simp only [Int.natCast_zero, Int.add_zero, Nat.zero_add] at h
              exact h
            have hbs := HB.out.size
            clear hb hp HR2
            go_wp2_with (at_builtin; refine append_pair _ rfl _ _ rfl w.heap.size m _ R (F, 1) wr.heap.size rfl (HO.out.alloc _) rfl (blk1 _ _) (by omega) (by simp; omega) ?_; intro g' cap' w9 hown hgr)
            have hB9 := below_row (HB.out.alloc hbs (.cells #[.int .i64 F, .int .i64 1] 45)) (by simp; omega) (HO.out.alloc _) hgr
            exact ⟨⟨1, m + 1, R ++ [(F, 1)], by omega, rfl, by simp [HM.out], by omega, hown, HR3.out, hB9⟩, by simp [intOf]; omega⟩
          · have g0 : 0 < k := by omega
            have hq : B (k - 1) = false := by
              cases h1 : B (k - 1) with
              | false => rfl
              | true => exact absurd ⟨g0, h1⟩ hp
            have c1 := (HB.out.cell (p := ⟨d, k - 1, none⟩) ld).trans (HD.out.2 (k - 1) (by omega))
            rw [hq] at c1
            have i0 : (0 : Int) ≤ (k : Int) - 1 := by omega
            have i1 : (k : Int) - 1 < (n : Int) := by omega
            have i2 : ((k : Int) - 1).toNat = k - 1 := by omega
            clear hp hq h0
            have hbs := HB.out.size
            clear hb
            go_wp2_with (at_builtin; refine append_pair _ rfl _ _ rfl w.heap.size m _ R (F + (k : Int), 1) wr.heap.size rfl (HO.out.alloc _) rfl (blk1 _ _) (by omega) (by simp; omega) ?_; intro g' cap' w9 hown hgr)
            have hB9 := below_row (HB.out.alloc hbs (.cells #[.int .i64 (F + (k : Int)), .int .i64 1] 45)) (by simp; omega) (HO.out.alloc _) hgr
            exact ⟨⟨k + 1, m + 1, R ++ [(F + (k : Int), 1)], by omega, by go_num, by simp [HM.out], by omega, hown, HR2.out, hB9⟩, by simp [intOf]; omega⟩
    · obtain rfl : k = n := by omega
      obtain ⟨ro, c, rfl, hL⟩ := Listed.of_own HO.out HM.out
      have HL := Lib.hid hL
      have hme := HM.out
      have HNEW := Lib.hid (fun b (e : ro = some ⟨b, 0, none⟩) => (HO.out.lt b (by subst e; rfl)).1)
      clear hL HO HD
      subst hme
      go_wp2_with fail
      go_ret
      exact ⟨R, ro, c, rfl, HL.out, HRD.out, HB.out, HNEW.out⟩

end Go.Proofs.Ytpnojoldcfghfaa
