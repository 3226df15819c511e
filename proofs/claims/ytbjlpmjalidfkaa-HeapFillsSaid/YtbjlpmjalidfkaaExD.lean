/- slices.IndexFunc and slices.ContainsFunc over runs: the first one at which a question holds. -/
import Derived.Test.YtbjlpmjalidfkaaExC
namespace Go.Proofs.Ytbjlpmjalidfkaa.Ex
open Go.RowKit Go.Sort

/-- A question that is asked of the runs of a list: it answers, and leaves all as it was. -/
def Asks (G : Nat) (args : Value → Array Value) (f : Int × Int → Bool) (L : List (Int × Int)) (w : World) : Prop :=
  ∀ (W : World) (x : Int × Int), x ∈ L → Below w.heap.size w W → Calls Try.prog G (args (.agg #[.int .i64 x.1, .int .i64 x.2])) W fun e w' => e = .returned (.bool (f x)) ∧ Below W.heap.size W w'

set_option maxHeartbeats 4000000 in
set_option maxRecDepth 100000 in
theorem index_hit_post (w : World) (G : Nat) (c : Value) (f : Int × Int → Bool) (eg : ∀ args w, (callFunc G args).run Try.prog w = .ok (.enter G args) w)
    (g cap n i : Nat) (A B : List (Int × Int)) (x : Int × Int) (hO : Own 145 w g cap (A ++ x :: B)) (hf : Asks G (fun v => #[v, c]) f (A ++ x :: B) w) (hn : (A ++ x :: B).length = n) (hi : A.length = i) (hA : ∀ y, y ∈ A → f y = false) (hx : f x = true) :
    Calls Try.prog 102 #[.slice (some ⟨g, 0, none⟩) n cap, .func (.func G) #[] #[c]] w fun e w' => e = .returned (.int .i64 i) ∧ Below w.heap.size w w' := by
  have hbig : n ≤ 9223372036854775807 := by
    obtain ⟨S, _, _, h1, h2⟩ := hO.heap
    unfold maxLen at h2
    omega
  have hgl := hO.lt
  have hin : i < n := by rw [← hn, ← hi]; simp
  have hcell : ∀ k y, (A ++ x :: B)[k]? = some y → w.cell? ⟨g, k * 2, none⟩ = some (.int .i64 y.1) ∧ w.cell? ⟨g, k * 2 + 1, none⟩ = some (.int .i64 y.2) := fun k y h => hO.cell h
  have hlo : ∀ k, k < i → ∃ y, (A ++ x :: B)[k]? = some y ∧ y ∈ A ++ x :: B ∧ f y = false := fun k hk => by
    have h1 : (A ++ x :: B)[k]? = A[k]? := List.getElem?_append_left (by omega)
    have h2 : A[k]? = some A[k] := List.getElem?_eq_getElem (by omega)
    exact ⟨A[k], h1.trans h2, List.mem_append_left _ (List.getElem_mem _), hA _ (List.getElem_mem _)⟩
  have hat : (A ++ x :: B)[i]? = some x := by rw [List.getElem?_append_right (by omega), hi, Nat.sub_self]; rfl
  have hmem : x ∈ A ++ x :: B := by simp
  have HC := Lib.hid hcell
  have HL := Lib.hid hlo
  have HT := Lib.hid hat
  have HF := Lib.hid hf
  have HX := Lib.hid hx
  clear hcell hlo hat hf hx hA hi hn hO
  go_enter Try.func102, Try.ntmps102
  go_wp2_with fail
  go_loopw [5, 8] (fun _ s8 wr => ∃ k : Nat, k ≤ i ∧ s8 = .int .i64 k ∧ Below w.heap.size w wr) (fun _ s8 _ => n - (intOf s8).toNat)
  case atStart => exact ⟨0, Nat.zero_le _, rfl, Below.refl _ w⟩
  case round =>
    obtain ⟨k, hk, rfl, hB⟩ := hrel
    by_cases hlt : k < i
    · have hkn : k < n := by omega
      have hkn' : (k : Int) < (n : Int) := by omega
      obtain ⟨y, h1, h2, h3⟩ := HL.out k hlt
      obtain ⟨c0, c1⟩ := HC.out k y h1
      replace c0 := (hB.cell (p := ⟨g, k * 2, none⟩) hgl).trans c0
      replace c1 := (hB.cell (p := ⟨g, k * 2 + 1, none⟩) hgl).trans c1
      have hcall := HF.out wr y h2 hB
      rw [h3] at hcall
      have H := Lib.hid hcall
      clear hcall h1 h3
      go_wp2_with fail
      refine H.out.mono ?_
      rintro e w2 ⟨rfl, hb⟩
      replace hB := onB hB hb
      clear hb
      go_wp2_with fail
      go_roundw
      case rel => exact ⟨k + 1, by omega, by go_num, hB⟩
      case measure => simp [intOf]; omega
    · obtain rfl : k = i := by omega
      have hkn' : (k : Int) < (n : Int) := by omega
      obtain ⟨c0, c1⟩ := HC.out k x HT.out
      replace c0 := (hB.cell (p := ⟨g, k * 2, none⟩) hgl).trans c0
      replace c1 := (hB.cell (p := ⟨g, k * 2 + 1, none⟩) hgl).trans c1
      have hcall := HF.out wr x hmem hB
      rw [HX.out] at hcall
      have H := Lib.hid hcall
      clear hcall
      go_wp2_with fail
      refine H.out.mono ?_
      rintro e w2 ⟨rfl, hb⟩
      replace hB := onB hB hb
      clear hb
      go_wp2_with fail
      go_ret
      exact ⟨rfl, hB⟩

set_option maxHeartbeats 4000000 in
set_option maxRecDepth 100000 in
theorem index_miss_post (w : World) (G : Nat) (c : Value) (f : Int × Int → Bool) (eg : ∀ args w, (callFunc G args).run Try.prog w = .ok (.enter G args) w)
    (g cap n : Nat) (L : List (Int × Int)) (hO : Own 145 w g cap L) (hf : Asks G (fun v => #[v, c]) f L w) (hn : L.length = n) (hA : ∀ y, y ∈ L → f y = false) :
    Calls Try.prog 102 #[.slice (some ⟨g, 0, none⟩) n cap, .func (.func G) #[] #[c]] w fun e w' => e = .returned (.int .i64 (-1)) ∧ Below w.heap.size w w' := by
  have hbig : n ≤ 9223372036854775807 := by
    obtain ⟨S, _, _, h1, h2⟩ := hO.heap
    unfold maxLen at h2
    omega
  have hgl := hO.lt
  have hcell : ∀ k y, L[k]? = some y → w.cell? ⟨g, k * 2, none⟩ = some (.int .i64 y.1) ∧ w.cell? ⟨g, k * 2 + 1, none⟩ = some (.int .i64 y.2) := fun k y h => hO.cell h
  have hlo : ∀ k, k < n → ∃ y, L[k]? = some y ∧ y ∈ L ∧ f y = false := fun k hk => by
    have h2 : L[k]? = some L[k] := List.getElem?_eq_getElem (by omega)
    exact ⟨L[k], h2, List.getElem_mem _, hA _ (List.getElem_mem _)⟩
  have HC := Lib.hid hcell
  have HL := Lib.hid hlo
  have HF := Lib.hid hf
  clear hcell hlo hf hA hn hO
  go_enter Try.func102, Try.ntmps102
  go_wp2_with fail
  go_loopw [5, 8] (fun _ s8 wr => ∃ k : Nat, k ≤ n ∧ s8 = .int .i64 k ∧ Below w.heap.size w wr) (fun _ s8 _ => n - (intOf s8).toNat)
  case atStart => exact ⟨0, Nat.zero_le _, rfl, Below.refl _ w⟩
  case round =>
    obtain ⟨k, hk, rfl, hB⟩ := hrel
    by_cases hlt : k < n
    · have hkn : k < n := by omega
      have hkn' : (k : Int) < (n : Int) := by omega
      obtain ⟨y, h1, h2, h3⟩ := HL.out k hlt
      obtain ⟨c0, c1⟩ := HC.out k y h1
      replace c0 := (hB.cell (p := ⟨g, k * 2, none⟩) hgl).trans c0
      replace c1 := (hB.cell (p := ⟨g, k * 2 + 1, none⟩) hgl).trans c1
      have hcall := HF.out wr y h2 hB
      rw [h3] at hcall
      have H := Lib.hid hcall
      clear hcall h1 h3
      go_wp2_with fail
      refine H.out.mono ?_
      rintro e w2 ⟨rfl, hb⟩
      replace hB := onB hB hb
      clear hb
      go_wp2_with fail
      go_roundw
      case rel => exact ⟨k + 1, by omega, by go_num, hB⟩
      case measure => simp [intOf]; omega
    · obtain rfl : k = n := by omega
      go_wp2_with fail
      go_ret
      exact ⟨rfl, hB⟩

set_option maxHeartbeats 4000000 in
set_option maxRecDepth 100000 in
theorem index_hit_pre (w : World) (G : Nat) (c : Value) (f : Int × Int → Bool) (eg : ∀ args w, (callFunc G args).run Try.prog w = .ok (.enter G args) w)
    (g cap n i : Nat) (A B : List (Int × Int)) (x : Int × Int) (hO : Own 145 w g cap (A ++ x :: B)) (hf : Asks G (fun v => #[c, v]) f (A ++ x :: B) w) (hn : (A ++ x :: B).length = n) (hi : A.length = i) (hA : ∀ y, y ∈ A → f y = false) (hx : f x = true) :
    Calls Try.prog 102 #[.slice (some ⟨g, 0, none⟩) n cap, .func (.func G) #[c] #[]] w fun e w' => e = .returned (.int .i64 i) ∧ Below w.heap.size w w' := by
  have hbig : n ≤ 9223372036854775807 := by
    obtain ⟨S, _, _, h1, h2⟩ := hO.heap
    unfold maxLen at h2
    omega
  have hgl := hO.lt
  have hin : i < n := by rw [← hn, ← hi]; simp
  have hcell : ∀ k y, (A ++ x :: B)[k]? = some y → w.cell? ⟨g, k * 2, none⟩ = some (.int .i64 y.1) ∧ w.cell? ⟨g, k * 2 + 1, none⟩ = some (.int .i64 y.2) := fun k y h => hO.cell h
  have hlo : ∀ k, k < i → ∃ y, (A ++ x :: B)[k]? = some y ∧ y ∈ A ++ x :: B ∧ f y = false := fun k hk => by
    have h1 : (A ++ x :: B)[k]? = A[k]? := List.getElem?_append_left (by omega)
    have h2 : A[k]? = some A[k] := List.getElem?_eq_getElem (by omega)
    exact ⟨A[k], h1.trans h2, List.mem_append_left _ (List.getElem_mem _), hA _ (List.getElem_mem _)⟩
  have hat : (A ++ x :: B)[i]? = some x := by rw [List.getElem?_append_right (by omega), hi, Nat.sub_self]; rfl
  have hmem : x ∈ A ++ x :: B := by simp
  have HC := Lib.hid hcell
  have HL := Lib.hid hlo
  have HT := Lib.hid hat
  have HF := Lib.hid hf
  have HX := Lib.hid hx
  clear hcell hlo hat hf hx hA hi hn hO
  go_enter Try.func102, Try.ntmps102
  go_wp2_with fail
  go_loopw [5, 8] (fun _ s8 wr => ∃ k : Nat, k ≤ i ∧ s8 = .int .i64 k ∧ Below w.heap.size w wr) (fun _ s8 _ => n - (intOf s8).toNat)
  case atStart => exact ⟨0, Nat.zero_le _, rfl, Below.refl _ w⟩
  case round =>
    obtain ⟨k, hk, rfl, hB⟩ := hrel
    by_cases hlt : k < i
    · have hkn : k < n := by omega
      have hkn' : (k : Int) < (n : Int) := by omega
      obtain ⟨y, h1, h2, h3⟩ := HL.out k hlt
      obtain ⟨c0, c1⟩ := HC.out k y h1
      replace c0 := (hB.cell (p := ⟨g, k * 2, none⟩) hgl).trans c0
      replace c1 := (hB.cell (p := ⟨g, k * 2 + 1, none⟩) hgl).trans c1
      have hcall := HF.out wr y h2 hB
      rw [h3] at hcall
      have H := Lib.hid hcall
      clear hcall h1 h3
      go_wp2_with fail
      refine H.out.mono ?_
      rintro e w2 ⟨rfl, hb⟩
      replace hB := onB hB hb
      clear hb
      go_wp2_with fail
      go_roundw
      case rel => exact ⟨k + 1, by omega, by go_num, hB⟩
      case measure => simp [intOf]; omega
    · obtain rfl : k = i := by omega
      have hkn' : (k : Int) < (n : Int) := by omega
      obtain ⟨c0, c1⟩ := HC.out k x HT.out
      replace c0 := (hB.cell (p := ⟨g, k * 2, none⟩) hgl).trans c0
      replace c1 := (hB.cell (p := ⟨g, k * 2 + 1, none⟩) hgl).trans c1
      have hcall := HF.out wr x hmem hB
      rw [HX.out] at hcall
      have H := Lib.hid hcall
      clear hcall
      go_wp2_with fail
      refine H.out.mono ?_
      rintro e w2 ⟨rfl, hb⟩
      replace hB := onB hB hb
      clear hb
      go_wp2_with fail
      go_ret
      exact ⟨rfl, hB⟩

set_option maxHeartbeats 4000000 in
set_option maxRecDepth 100000 in
theorem index_miss_pre (w : World) (G : Nat) (c : Value) (f : Int × Int → Bool) (eg : ∀ args w, (callFunc G args).run Try.prog w = .ok (.enter G args) w)
    (g cap n : Nat) (L : List (Int × Int)) (hO : Own 145 w g cap L) (hf : Asks G (fun v => #[c, v]) f L w) (hn : L.length = n) (hA : ∀ y, y ∈ L → f y = false) :
    Calls Try.prog 102 #[.slice (some ⟨g, 0, none⟩) n cap, .func (.func G) #[c] #[]] w fun e w' => e = .returned (.int .i64 (-1)) ∧ Below w.heap.size w w' := by
  have hbig : n ≤ 9223372036854775807 := by
    obtain ⟨S, _, _, h1, h2⟩ := hO.heap
    unfold maxLen at h2
    omega
  have hgl := hO.lt
  have hcell : ∀ k y, L[k]? = some y → w.cell? ⟨g, k * 2, none⟩ = some (.int .i64 y.1) ∧ w.cell? ⟨g, k * 2 + 1, none⟩ = some (.int .i64 y.2) := fun k y h => hO.cell h
  have hlo : ∀ k, k < n → ∃ y, L[k]? = some y ∧ y ∈ L ∧ f y = false := fun k hk => by
    have h2 : L[k]? = some L[k] := List.getElem?_eq_getElem (by omega)
    exact ⟨L[k], h2, List.getElem_mem _, hA _ (List.getElem_mem _)⟩
  have HC := Lib.hid hcell
  have HL := Lib.hid hlo
  have HF := Lib.hid hf
  clear hcell hlo hf hA hn hO
  go_enter Try.func102, Try.ntmps102
  go_wp2_with fail
  go_loopw [5, 8] (fun _ s8 wr => ∃ k : Nat, k ≤ n ∧ s8 = .int .i64 k ∧ Below w.heap.size w wr) (fun _ s8 _ => n - (intOf s8).toNat)
  case atStart => exact ⟨0, Nat.zero_le _, rfl, Below.refl _ w⟩
  case round =>
    obtain ⟨k, hk, rfl, hB⟩ := hrel
    by_cases hlt : k < n
    · have hkn : k < n := by omega
      have hkn' : (k : Int) < (n : Int) := by omega
      obtain ⟨y, h1, h2, h3⟩ := HL.out k hlt
      obtain ⟨c0, c1⟩ := HC.out k y h1
      replace c0 := (hB.cell (p := ⟨g, k * 2, none⟩) hgl).trans c0
      replace c1 := (hB.cell (p := ⟨g, k * 2 + 1, none⟩) hgl).trans c1
      have hcall := HF.out wr y h2 hB
      rw [h3] at hcall
      have H := Lib.hid hcall
      clear hcall h1 h3
      go_wp2_with fail
      refine H.out.mono ?_
      rintro e w2 ⟨rfl, hb⟩
      replace hB := onB hB hb
      clear hb
      go_wp2_with fail
      go_roundw
      case rel => exact ⟨k + 1, by omega, by go_num, hB⟩
      case measure => simp [intOf]; omega
    · obtain rfl : k = n := by omega
      go_wp2_with fail
      go_ret
      exact ⟨rfl, hB⟩

set_option maxHeartbeats 1000000 in
set_option maxRecDepth 100000 in
theorem contains_hit (w : World) (G : Nat) (c : Value) (f : Int × Int → Bool) (eg : ∀ args w, (callFunc G args).run Try.prog w = .ok (.enter G args) w)
    (g cap n i : Nat) (A B : List (Int × Int)) (x : Int × Int) (hO : Own 145 w g cap (A ++ x :: B)) (hf : Asks G (fun v => #[c, v]) f (A ++ x :: B) w) (hn : (A ++ x :: B).length = n) (hi : A.length = i) (hA : ∀ y, y ∈ A → f y = false) (hx : f x = true) :
    Calls Try.prog 93 #[.slice (some ⟨g, 0, none⟩) n cap, .func (.func G) #[c] #[]] w fun e w' => e = .returned (.bool true) ∧ Below w.heap.size w w' := by
  have H := Lib.hid (index_hit_pre w G c f eg g cap n i A B x hO hf hn hi hA hx)
  clear hO hf hn hi hA hx
  go_enter Try.func93, Try.ntmps93
  go_wp2_with fail
  refine H.out.mono ?_
  rintro e w2 ⟨rfl, hb⟩
  go_wp2_with fail
  go_ret
  exact ⟨rfl, hb⟩

set_option maxHeartbeats 1000000 in
set_option maxRecDepth 100000 in
theorem contains_miss (w : World) (G : Nat) (c : Value) (f : Int × Int → Bool) (eg : ∀ args w, (callFunc G args).run Try.prog w = .ok (.enter G args) w)
    (g cap n : Nat) (L : List (Int × Int)) (hO : Own 145 w g cap L) (hf : Asks G (fun v => #[c, v]) f L w) (hn : L.length = n) (hA : ∀ y, y ∈ L → f y = false) :
    Calls Try.prog 93 #[.slice (some ⟨g, 0, none⟩) n cap, .func (.func G) #[c] #[]] w fun e w' => e = .returned (.bool false) ∧ Below w.heap.size w w' := by
  have H := Lib.hid (index_miss_pre w G c f eg g cap n L hO hf hn hA)
  clear hO hf hn hA
  go_enter Try.func93, Try.ntmps93
  go_wp2_with fail
  refine H.out.mono ?_
  rintro e w2 ⟨rfl, hb⟩
  go_wp2_with fail
  go_ret
  exact ⟨rfl, hb⟩

end Go.Proofs.Ytbjlpmjalidfkaa.Ex
