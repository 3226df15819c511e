/- The document's lists of signs, and the longest that stands at a place. -/
import Derived.Test.YtkeeglpbhjnmdaaDoorLxU
namespace Go.Proofs.YtkeeglpbhjnmdaaDoor
open Go.RowKit Go.Lib

/-- Texts as they lie. -/
def TextsAt (w : World) (b : Nat) (l : List ByteArray) : Prop := ∀ (j : Nat) (s : ByteArray), l[j]? = some s → w.cell? ⟨b, j, none⟩ = some (.string s)
theorem TextsAt.later {w w' : World} {b : Nat} {l : List ByteArray} (h : TextsAt w b l) (hb : Below w.heap.size w w') : TextsAt w' b l := fun j s hs => later' hb (h j s hs)
def ListSaid (l : List ByteArray) (w : World) (e : Ending) (w' : World) : Prop := ∃ b, e = .returned (.slice (some ⟨b, 0, none⟩) l.length l.length) ∧ TextsAt w' b l ∧ Below w.heap.size w w'

theorem texts_new (w : World) (l : List ByteArray) (t : TypeId) : TextsAt (w.alloc (.cells (l.map Value.string).toArray t)) w.heap.size l := by
  intro j s hs
  have h : (l.map Value.string)[j]? = some (.string s) := by rw [List.getElem?_map, hs]; rfl
  simp [go_sem, hs]

set_option maxHeartbeats 4000000 in
set_option maxRecDepth 100000 in
theorem ops_any (w : World) : Calls Tryd.prog 36 #[] w (ListSaid opsB w) := by
  have ht := Lib.hid (texts_new w opsB 9)
  go_enter Tryd.func36, Tryd.ntmps36
  go_wp2_with fail
  go_ret
  exact ⟨w.heap.size, rfl, ht.out, (Below.refl _ _).alloc (Nat.le_refl _) _⟩

set_option maxHeartbeats 4000000 in
set_option maxRecDepth 100000 in
theorem puncts_any (w : World) : Calls Tryd.prog 37 #[] w (ListSaid punB w) := by
  have ht := Lib.hid (texts_new w punB 9)
  go_enter Tryd.func37, Tryd.ntmps37
  go_wp2_with fail
  go_ret
  exact ⟨w.heap.size, rfl, ht.out, (Below.refl _ _).alloc (Nat.le_refl _) _⟩

theorem fold_snoc (M : List UInt8 → Bool) (ps : List ByteArray) (k : Nat) (t : ByteArray) (h : ps[k]? = some t) : (ps.take (k + 1)).foldl (longM M) ⟨#[]⟩ = longM M ((ps.take k).foldl (longM M) ⟨#[]⟩) t := by
  obtain ⟨hk, rfl⟩ := List.getElem?_eq_some_iff.1 h
  rw [List.take_succ_eq_append_getElem hk, List.foldl_append]
  rfl
theorem prefix_at (s t : ByteArray) (k : Nat) (hk : k ≤ s.size) : hasPrefix (s.data.toList.drop k) t.data.toList = true ↔ k + t.size ≤ s.size ∧ (s.extract k (k + t.size)).toList = t.toList := by
  have hz := size_eq s
  have ht := size_eq t
  have hx : (s.extract k (k + t.size)).data.toList = (s.data.toList.drop k).take t.size := by simp [ByteArray.data_extract]
  rw [ByteArray.toList_eq, ByteArray.toList_eq, hx]
  unfold hasPrefix
  rw [List.isPrefixOf_iff_prefix, List.prefix_iff_eq_take, ← ht]
  constructor
  · intro h
    refine ⟨?_, h.symm⟩
    have := congrArg List.length h
    rw [List.length_take, List.length_drop] at this
    omega
  · intro h
    exact h.2.symm
theorem ndrewN2 {B : Nat} {w W : World} (h : Below B w W) (n : Nat) : Below B w (W.drewN n) := ⟨h.os, h.tape, h.output, h.size, h.block⟩
def LongSaid (r : ByteArray) (w : World) (e : Ending) (w' : World) : Prop := e = .returned (.string r) ∧ Below w.heap.size w w'
theorem LongSaid.mk {r b : ByteArray} {w w' : World} (h : b = r) (hb : Below w.heap.size w w') : LongSaid r w (.returned (.string b)) w' := by
  subst h
  exact ⟨rfl, hb⟩
set_option maxHeartbeats 8000000 in
set_option maxRecDepth 100000 in
theorem longest_any (s : ByteArray) (hs : s.size ≤ 100000) (k : Nat) (hk : k ≤ s.size) (b : Nat) (ps : List ByteArray) (hp : ps.length ≤ 100) (hp3 : ∀ t, t ∈ ps → t.size ≤ 3) (w : World) (hT : TextsAt w b ps) :
    Calls Tryd.prog 35 #[.string s, .int .i64 k, .slice (some ⟨b, 0, none⟩) ps.length ps.length] w (LongSaid (longL (s.data.toList.drop k) ps) w) := by
  have HT := Lib.hid (And.intro hT hp3)
  clear hT hp3
  go_enter Tryd.func35, Tryd.ntmps35
  go_wp2_with fail
  go_loopw [7, 8] (fun s7 s8 wr => ∃ i : Nat, i ≤ ps.length ∧ s7 = .string ((ps.take i).foldl (longM (hasPrefix (s.data.toList.drop k))) ⟨#[]⟩) ∧ s8 = .int .i64 i ∧ Below w.heap.size w wr) (fun _ s8 _ => ps.length - (RowKit.intOf s8).toNat)
  case atStart => exact ⟨0, Nat.zero_le _, rfl, rfl, Below.refl _ _⟩
  case round =>
    obtain ⟨i, hi, rfl, rfl, hb⟩ := hrel
    have HB := Lib.hid hb
    clear hb
    by_cases hlt : i < ps.length
    · have hlt' : (i : Int) < (ps.length : Int) := by omega
      obtain ⟨t, ht⟩ : ∃ t, ps[i]? = some t := ⟨_, List.getElem?_eq_getElem hlt⟩
      have hc := later' HB.out (HT.out.1 i t ht)
      have htz := HT.out.2 t (List.mem_of_getElem? ht)
      have hfs := fold_snoc (hasPrefix (s.data.toList.drop k)) ps i t ht
      have hpx := prefix_at s t k hk
      generalize (ps.take i).foldl (longM (hasPrefix (s.data.toList.drop k))) ⟨#[]⟩ = best at *
      have HFS := Lib.hid (And.intro hfs hpx)
      clear hfs ht hpx
      have b0 : (0 : Int) ≤ (i : Int) := by omega
      have ei : IntKind.i64.wrap ((i : Int) + 1) = (i : Int) + 1 := by rw [IntKind.wrap_i64]; omega
      have es : IntKind.i64.wrap ((k : Int) + (t.size : Int)) = (k : Int) + (t.size : Int) := by rw [IntKind.wrap_i64]; omega
      have es0 : (0 : Int) ≤ (k : Int) + (t.size : Int) := by omega
      have es1 : (k : Int) ≤ (k : Int) + (t.size : Int) := by omega
      have es2 : ((k : Int) + (t.size : Int)).toNat = k + t.size := by omega
      by_cases h1 : k + t.size ≤ s.size
      · have f1 : decide ((k : Int) + (t.size : Int) ≤ (s.size : Int)) = true := decide_eq_true (by omega)
        have f1' : (k : Int) + (t.size : Int) ≤ (s.size : Int) := by omega
        by_cases h2 : (s.extract k (k + t.size)).toList = t.toList
        · have f2 : ((s.extract k (k + t.size)).toList == t.toList) = true := by simpa using h2
          by_cases h3 : best.size < t.size
          · have f3 : decide (best.size < t.size) = true := decide_eq_true h3
            have HN := Lib.hid (show longM (hasPrefix (s.data.toList.drop k)) best t = t by
              unfold longM
              rw [if_pos ⟨HFS.out.2.2 ⟨h1, h2⟩, h3⟩])
            clear h1 h2 h3
            go_upto_region 6 with fail
            go_quiet (fail)
            have hbd := ndrewN2 HB.out nq
            go_wp2_with fail
            exact ⟨⟨i + 1, by omega, by rw [HFS.out.1, HN.out], by go_num, hbd⟩, by simp [RowKit.intOf]; omega⟩
          · have f3 : decide (best.size < t.size) = false := decide_eq_false h3
            have HN := Lib.hid (show longM (hasPrefix (s.data.toList.drop k)) best t = best by
              unfold longM
              rw [if_neg fun h => h3 h.2])
            clear h1 h2 h3
            go_upto_region 6 with fail
            go_quiet (fail)
            have hbd := ndrewN2 HB.out nq
            go_wp2_with fail
            exact ⟨⟨i + 1, by omega, by rw [HFS.out.1, HN.out], by go_num, hbd⟩, by simp [RowKit.intOf]; omega⟩
        · have f2 : ((s.extract k (k + t.size)).toList == t.toList) = false := by simpa using h2
          have HN := Lib.hid (show longM (hasPrefix (s.data.toList.drop k)) best t = best by
            unfold longM
            rw [if_neg fun h => h2 (HFS.out.2.1 h.1).2])
          clear h1 h2
          go_upto_region 6 with fail
          go_quiet (fail)
          have hbd := ndrewN2 HB.out nq
          go_wp2_with fail
          exact ⟨⟨i + 1, by omega, by rw [HFS.out.1, HN.out], by go_num, hbd⟩, by simp [RowKit.intOf]; omega⟩
      · have f1 : decide ((k : Int) + (t.size : Int) ≤ (s.size : Int)) = false := decide_eq_false (by omega)
        have HN := Lib.hid (show longM (hasPrefix (s.data.toList.drop k)) best t = best by
          unfold longM
          rw [if_neg fun h => h1 (HFS.out.2.1 h.1).1])
        clear h1
        go_upto_region 6 with fail
        go_quiet (fail)
        have hbd := ndrewN2 HB.out nq
        go_wp2_with fail
        exact ⟨⟨i + 1, by omega, by rw [HFS.out.1, HN.out], by go_num, hbd⟩, by simp [RowKit.intOf]; omega⟩
    · obtain rfl : i = ps.length := by omega
      have HL := Lib.hid (show (ps.take ps.length).foldl (longM (hasPrefix (s.data.toList.drop k))) ⟨#[]⟩ = longL (s.data.toList.drop k) ps by rw [List.take_length]; rfl)
      generalize (ps.take ps.length).foldl (longM (hasPrefix (s.data.toList.drop k))) ⟨#[]⟩ = best at *
      go_wp2_with fail
      go_ret
      exact LongSaid.mk HL.out HB.out

end Go.Proofs.YtkeeglpbhjnmdaaDoor
