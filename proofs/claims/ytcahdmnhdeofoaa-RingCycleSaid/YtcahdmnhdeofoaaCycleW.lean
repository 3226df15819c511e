/- RingCycle: its walk. -/
import Derived.Test.YtcahdmnhdeofoaaPlaysW
import Derived.Test.YtcahdmnhdeofoaaRjH
import Derived.Test.YtcahdmnhdeofoaaRjI
namespace Go.Proofs.Ytcahdmnhdeofoaa
open Go.RowKit Go.Shelf

/-- The program's ring has been asked, the document's not yet. -/
def Half (w : World) (s : Spot) (q : Nat) (R R' : Rows) (W : World) : Prop :=
  Ring s R' W ∧ Ref W q s.n R ∧ Below w.heap.size w W ∧ s.r < q ∧ s.p < q ∧ s.d < q ∧ w.heap.size ≤ s.r ∧ w.heap.size ≤ s.p ∧ w.heap.size ≤ s.d
theorem Both.half {w W W' : World} {s : Spot} {q : Nat} {R R' : Rows} (h : Both w s q R W) (hR : Ring s R' W') (ht : Turn s W W') : Half w s q R R' W' :=
  ⟨hR, h.ref.turn ht h.rq h.pq h.dq, h.below.trans (ht.below h.r0 h.p0 h.d0 h.below.size), h.rq, h.pq, h.dq, h.r0, h.p0, h.d0⟩
theorem Half.later {w W W' : World} {s : Spot} {q : Nat} {R R' : Rows} (h : Half w s q R R' W) (hb : Below W.heap.size W W') : Half w s q R R' W' :=
  ⟨h.1.later hb, h.2.1.later hb, onB' h.2.2.1 hb, h.2.2.2⟩

theorem CMap.isMap {w : World} {b n : Nat} {f : Int → Int} {dom : List Int} (h : CMap w b n f dom) : ∃ es c, w.heap[b]? = some (.map es c) := by
  obtain ⟨D, ⟨es, c, hb, _⟩, _⟩ := h
  exact ⟨es, c, hb⟩
theorem cell_map {w : World} {b : Nat} {es : Array MapEntry} {c : Nat} (h : w.heap[b]? = some (.map es c)) (j : Nat) : w.cell? ⟨b, j, none⟩ = none := by simp [World.cell?, h]
/-- A map of the call's own has turned, nothing else. -/
theorem Both.mapped {w W W' : World} {s : Spot} {q kb n : Nat} {R : Rows} {f : Int → Int} {dom : List Int} (h : Both w s q R W) (hM : CMap W kb n f dom) (hg : W.grownBy W' (some kb)) (hkb : q < kb) : Both w s q R W' := by
  obtain ⟨es, c, hm⟩ := hM.isMap
  have hne : ∀ (b : Nat) (x : Value), W.cell? ⟨b, 0, none⟩ = some x → b ≠ kb := fun b x hx e => by
    rw [e, cell_map hm] at hx
    cases hx
  have hk : ∀ b, b < W.heap.size → b ≠ kb → W'.heap[b]? = W.heap[b]? := fun b h1 h2 => hg.block b h1 (by simpa using h2)
  have := h.rq
  have := h.r0
  refine ⟨?_, h.ref.same hg.size fun b _ h2 h3 => hk b h2 ?_, h.below.trans ⟨hg.os, hg.tape, hg.output, hg.size, fun b hb => hk b (Nat.lt_of_lt_of_le hb h.below.size) (by omega)⟩, h.r0, h.p0, h.d0, h.rq, h.pq, h.dq⟩
  · obtain ⟨C, F, D, hL, hI⟩ := h.ring
    have := h.pq
    have := h.dq
    obtain ⟨u1, u2, u3, u4, u5, u6, u7⟩ := hL.under
    refine ⟨C, F, D, hL.same hg.size fun b hb => ?_, hI⟩
    rcases hb with rfl | rfl | rfl | rfl | rfl | rfl | rfl
    · exact hk _ u1 (by omega)
    · exact hk _ u2 (by omega)
    · exact hk _ u3 (by omega)
    · exact hk _ u4 (hne _ _ hL.ba1)
    · exact hk _ u5 (hne _ _ hL.bn1)
    · exact hk _ u6 (hne _ _ hL.ba2)
    · exact hk _ u7 (hne _ _ hL.bn2)
  · rintro rfl
    obtain ⟨o, h4, h5⟩ := h3
    rw [hm] at h4
    cases h4
    cases h5

theorem Half.mapped {w W W' : World} {s : Spot} {q kb n : Nat} {R R' : Rows} {f : Int → Int} {dom : List Int} (h : Half w s q R R' W) (hM : CMap W kb n f dom) (hg : W.grownBy W' (some kb)) (hkb : q < kb) : Half w s q R R' W' := by
  obtain ⟨es, c, hm⟩ := hM.isMap
  have hne : ∀ (b : Nat) (x : Value), W.cell? ⟨b, 0, none⟩ = some x → b ≠ kb := fun b x hx e => by
    rw [e, cell_map hm] at hx
    cases hx
  have hk : ∀ b, b < W.heap.size → b ≠ kb → W'.heap[b]? = W.heap[b]? := fun b g1 g2 => hg.block b g1 (by simpa using g2)
  obtain ⟨h1, h2, h3, h4, h5, h6, h7, h8, h9⟩ := h
  refine ⟨?_, h2.same hg.size fun b _ g2 g3 => hk b g2 ?_, h3.trans ⟨hg.os, hg.tape, hg.output, hg.size, fun b hb => hk b (Nat.lt_of_lt_of_le hb h3.size) (by omega)⟩, h4, h5, h6, h7, h8, h9⟩
  · obtain ⟨C, F, D, hL, hI⟩ := h1
    obtain ⟨u1, u2, u3, u4, u5, u6, u7⟩ := hL.under
    refine ⟨C, F, D, hL.same hg.size fun b hb => ?_, hI⟩
    rcases hb with rfl | rfl | rfl | rfl | rfl | rfl | rfl
    · exact hk _ u1 (by omega)
    · exact hk _ u2 (by omega)
    · exact hk _ u3 (by omega)
    · exact hk _ u4 (hne _ _ hL.ba1)
    · exact hk _ u5 (hne _ _ hL.bn1)
    · exact hk _ u6 (hne _ _ hL.ba2)
    · exact hk _ u7 (hne _ _ hL.bn2)
  · rintro rfl
    obtain ⟨o, g4, g5⟩ := g3
    rw [hm] at g4
    cases g4
    cases g5

/-- One at each key that is there. -/
def ind (dom : List Int) : Int → Int := fun x => if x ∈ dom then 1 else 0
theorem ind_put {dom : List Int} {c : Int} (h : c ∉ dom) : fput (ind dom) c 1 = ind (c :: dom) ∧ dput dom c = c :: dom ∧ ind dom c = 0 := by
  refine ⟨?_, by simp [dput, h], by simp [ind, h]⟩
  funext x
  unfold fput ind
  by_cases e : x = c <;> simp [e]

/-- In the midst of RingCycle: what is kept are just the grey ones and the black ones. -/
structure Cy (w : World) (s : Spot) (q kb m : Nat) (L : List Int) (R : Rows) (dom : List Int) (W : World) : Prop where
  both : Both w s q R W
  perm : R.all.Perm L
  map : CMap W kb m (ind dom) dom
  dom : dom.Perm (R.grey ++ R.black)
  kq : q < kb
theorem Cy.nodup {w W : World} {s : Spot} {q kb m : Nat} {L dom : List Int} {R : Rows} (h : Cy w s q kb m L R dom W) : R.all.Nodup := h.both.fit.1.nodup
theorem Cy.not_frm {w W : World} {s : Spot} {q kb m : Nat} {L dom : List Int} {R : Rows} (h : Cy w s q kb m L R dom W) {c : Int} (hc : c ∈ R.frm) : c ∉ dom := fun hd => by
  have h1 := h.dom.mem_iff.1 hd
  have h2 := h.nodup
  unfold Rows.all at h2
  exact (List.nodup_append.1 (List.nodup_append.1 h2).2.1).2.2 _ hc _ h1 rfl
theorem Cy.not_white {w W : World} {s : Spot} {q kb m : Nat} {L dom : List Int} {R : Rows} (h : Cy w s q kb m L R dom W) {c : Int} (hc : c ∈ R.white) : c ∉ dom := fun hd => by
  have h1 := h.dom.mem_iff.1 hd
  have h2 := h.nodup
  unfold Rows.all at h2
  exact (List.nodup_append.1 h2).2.2 _ hc _ (List.mem_append_right _ h1) rfl

theorem wf_small {c : Int} (h0 : 1 ≤ c) (h1 : c ≤ 65536) : (Lit.int .i64 c).wf = true := by
  have hmin : IntKind.i64.min = -9223372036854775808 := rfl
  have hmax : IntKind.i64.max = 9223372036854775807 := rfl
  simp only [Lit.wf, Bool.and_eq_true, decide_eq_true_eq]
  omega
theorem shade_perm {R : Rows} {c : Int} (hc : c ∈ R.frm) : (R.shade c).all.Perm R.all := by
  refine List.perm_iff_count.2 fun a => ?_
  have := (List.perm_cons_erase hc).count_eq a
  unfold Rows.all Rows.shade
  simp only [List.count_append, List.count_cons, List.count_nil] at *
  omega
theorem shade_dom {R : Rows} {c : Int} {dom : List Int} (h : dom.Perm (R.grey ++ R.black)) : (c :: dom).Perm ((R.shade c).grey ++ (R.shade c).black) := by
  refine List.perm_iff_count.2 fun a => ?_
  have := h.count_eq a
  unfold Rows.shade
  simp only [List.count_append, List.count_cons, List.count_nil] at *
  omega
theorem alloc_perm {R : Rows} {c : Int} {l : List Int} (hc : R.white = c :: l) : R.alloc.all.Perm R.all := by
  refine List.perm_iff_count.2 fun a => ?_
  unfold Rows.all Rows.alloc
  rw [hc]
  simp only [List.tail_cons, List.take_succ_cons, List.take_zero, List.count_append, List.count_cons, List.count_nil]
  omega
theorem alloc_dom {R : Rows} {c : Int} {l dom : List Int} (hc : R.white = c :: l) (h : dom.Perm (R.grey ++ R.black)) : (c :: dom).Perm (R.alloc.grey ++ R.alloc.black) := by
  refine List.perm_iff_count.2 fun a => ?_
  have := h.count_eq a
  unfold Rows.alloc
  rw [hc]
  simp only [List.take_succ_cons, List.take_zero, List.count_append, List.count_cons, List.count_nil] at *
  omega

/-- Of the program's ring alone. -/
structure Cz (w : World) (s : Spot) (kb m : Nat) (L : List Int) (R : Rows) (dom : List Int) (W : World) : Prop where
  ring : Ring s R W
  below : Below w.heap.size w W
  r0 : w.heap.size ≤ s.r
  p0 : w.heap.size ≤ s.p
  d0 : w.heap.size ≤ s.d
  perm : R.all.Perm L
  map : CMap W kb m (ind dom) dom
  dom : dom.Perm (R.grey ++ R.black)
  kr : kb ≠ s.r
  kp : kb ≠ s.p
  kd : kb ≠ s.d
theorem Cy.cz {w W : World} {s : Spot} {q kb m : Nat} {L dom : List Int} {R : Rows} (h : Cy w s q kb m L R dom W) : Cz w s kb m L R dom W := by
  have h1 := h.both
  have := h1.rq
  have := h1.pq
  have := h1.dq
  have := h.kq
  exact ⟨h1.ring, h1.below, h1.r0, h1.p0, h1.d0, h.perm, h.map, h.dom, by omega, by omega, by omega⟩
theorem Cz.turn {w W W' : World} {s : Spot} {kb m : Nat} {L dom : List Int} {R R' : Rows} (h : Cz w s kb m L R dom W) (hR : Ring s R' W') (ht : Turn s W W') (hp : R'.all.Perm R.all) (hd : (R.grey ++ R.black).Perm (R'.grey ++ R'.black)) : Cz w s kb m L R' dom W' :=
  ⟨hR, h.below.trans (ht.below h.r0 h.p0 h.d0 h.below.size), h.r0, h.p0, h.d0, hp.trans h.perm, h.map.turn ht h.kr h.kp h.kd, h.dom.trans hd, h.kr, h.kp, h.kd⟩
theorem Cz.later {w W W' : World} {s : Spot} {kb m : Nat} {L dom : List Int} {R : Rows} (h : Cz w s kb m L R dom W) (hb : Below W.heap.size W W') : Cz w s kb m L R dom W' :=
  ⟨h.ring.later hb, onB' h.below hb, h.r0, h.p0, h.d0, h.perm, h.map.later hb, h.dom, h.kr, h.kp, h.kd⟩
theorem done_perm {R : Rows} {c : Int} {l : List Int} (hc : R.grey = l ++ [c]) : R.done.all.Perm R.all ∧ (R.grey ++ R.black).Perm (R.done.grey ++ R.done.black) := by
  have e1 : R.grey.dropLast = l := by rw [hc]; simp
  have e2 : R.grey.drop (R.grey.length - 1) = [c] := by rw [hc]; simp
  refine ⟨List.perm_iff_count.2 fun a => ?_, List.perm_iff_count.2 fun a => ?_⟩
  all_goals
    simp only [Rows.all, Rows.done]
    rw [e1, e2, hc]
    simp only [List.count_append, List.count_cons, List.count_nil]
    omega
theorem fin_perm {R : Rows} : R.fin.all.Perm R.all ∧ (R.grey ++ R.black).Perm (R.fin.grey ++ R.fin.black) := by
  refine ⟨List.perm_iff_count.2 fun a => ?_, List.Perm.refl _⟩
  simp only [Rows.all, Rows.fin, List.count_append, List.count_nil]
  omega

set_option maxHeartbeats 16000000 in
set_option maxRecDepth 100000 in
theorem cycle_in (a f m : Nat) (a0 : Option Addr) (len cap0 : Nat) (w : World) (hnums : Nums w a0 len) (ha : a ≤ 255) (hf : f ≤ 255) (hm : m ≤ 255) (hl : len ≤ 60) :
    Calls Try.prog 5 #[.int .u8 a, .int .u8 f, .int .u8 m, .slice a0 len cap0] w fun e w' => e = .returned (.bool true) ∧ Below w.heap.size w w' := by
  have HNUM := Lib.hid hnums
  have g3 : decide (60 < (len : Int)) = false := decide_eq_false (by omega)
  clear hnums
  go_enter Try.func5, Try.ntmps5
  go_wp2_with fail
  refine (awake_any _).mono ?_
  rintro e w1 ⟨rfl, hB⟩
  have s1 := hB.size
  have HB := Lib.hid hB
  clear hB
  go_wp2_with fail
  obtain ⟨n, hn⟩ : ∃ n : Nat, (a : Int) % 40 + 1 = n := ⟨((a : Int) % 40 + 1).toNat, by omega⟩
  have n0 : 1 ≤ n := by omega
  have n1 : n ≤ 40 := by omega
  have e1 : 3 * ((a : Int) % 40 + 1) + 1 = ((3 * n + 1 : Nat) : Int) := by omega
  rw [e1, hn]
  generalize (a : Int) % 40 = a' at *
  refine (made_in (3 * n + 1) w1 (by omega) (by omega)).mono ?_
  rintro e w2 ⟨s, q, rfl, hsn, hR, hQ, l1, l2, l3, l4, l5, l6, hb⟩
  have HBO : Hid (Both w s q none4 w2) := ⟨hR, by rw [hsn]; exact hQ, onB' HB.out hb, by omega, by omega, by omega, l1, l2, l3⟩
  clear hR hQ hb HB s1 l1 l2 l3 l4 l5 l6 e1
  go_wp2_with fail
  go_loopw [14] (fun s14 wr => ∃ k : Nat, k ≤ n ∧ s14 = .int .i64 k ∧ Both w s q ⟨steps k, [], [], []⟩ wr) (fun s14 _ => n - (intOf s14).toNat)
  case atStart => exact ⟨0, Nat.zero_le _, rfl, HBO.out⟩
  case round =>
    clear HBO
    obtain ⟨k, hk, rfl, hBO⟩ := hrel
    have HBO := Lib.hid hBO
    clear hBO
    by_cases hlt : k < n
    · have hlt' : (k : Int) < (n : Int) := by omega
      have hfit : Fit s.n (steps (k + 1)) := by rw [hsn]; exact steps_fit (k + 1) (by omega)
      have hsl := steps_length k
      go_wp2_with fail
      refine (ring_grow s _ wr HBO.out.ring (3 * (k : Int) + 1) (by simpa [Rows.all, steps] using hfit) (by simp [Rows.all, hsl]; omega)).mono ?_
      rintro e w3 ⟨rfl, hR, ht⟩
      have HH : Hid (Half w s q ⟨steps k, [], [], []⟩ ⟨steps (k + 1), [], [], []⟩ w3) := Lib.hid (HBO.out.half hR ht)
      have HF := Lib.hid HBO.out.fit
      clear hR ht HBO
      go_wp2_with fail
      refine (rdo_any w3 q s.n _ HH.out.2.1 0 (3 * (k : Int) + 1) HF.out.2.2.1 HF.out.2.1 (by simp [Rows.all, hsl]; omega)).mono ?_
      rintro e w4 ⟨rfl, hQ, ho⟩
      have he : after s.n 0 (3 * (k : Int) + 1) ⟨steps k, [], [], []⟩ = ⟨steps (k + 1), [], [], []⟩ := by
        unfold after
        rw [if_pos rfl, if_pos (by rw [hsn]; omega)]
        rfl
      rw [he] at hQ
      have HB4 := Lib.hid (both_of HH.out hQ ho)
      clear hQ ho HH HF he
      go_wp2_with fail
      exact ⟨⟨k + 1, by omega, by go_num, HB4.out⟩, by simp [intOf]; omega⟩
    · obtain rfl : n = k := by omega
      clear hlt hk
      have hmk : ∀ W, (Instr.makeMap 51 none).run Try.prog W = .ok (.map (some W.heap.size)) (W.alloc (.map #[] 0)) := fun W => rfl
      go_wp2_with fail
      have hba : Below wr.heap.size wr (wr.alloc (.map #[] 0)) := (Below.refl _ _).alloc (Nat.le_refl _) _
      have HM := Lib.hid (cmap_made wr)
      have hkb : q < wr.heap.size := HBO.out.ref.lq
      replace HBO := Lib.hid (HBO.out.later hba)
      generalize (wr.alloc (.map #[] 0)) = x0 at *
      generalize wr.heap.size = kb at *
      clear hba hmk
      have hL := steps_length n
      have hfit : Fit s.n (steps n) := by rw [hsn]; exact steps_fit n (by omega)
      generalize steps n = L at *
      have hnd := hfit.nodup
      obtain ⟨F, hF⟩ : ∃ F : Nat, f % (n + 1) = F := ⟨_, rfl⟩
      have hF1 : F ≤ n := by have := Nat.mod_lt f (show 0 < n + 1 by omega); omega
      have r1 : (f : Int).tmod ((n : Int) + 1) = (F : Int) := by
        rw [show ((n : Int) + 1) = ((n + 1 : Nat) : Int) by simp, ← Int.ofNat_tmod, hF]
      have r2 : (((n : Int) + 1) == 0) = false := by simp; omega
      have r3 : IntKind.i64.wrap ((n : Int) + 1) = (n : Int) + 1 := by rw [IntKind.wrap_i64]; omega
      have r4 : IntKind.i64.wrap (F : Int) = (F : Int) := by rw [IntKind.wrap_i64]; omega
      have HLL := Lib.hid (And.intro hL (And.intro hfit hnd))
      clear hF hL hfit hnd
      go_wp2_with fail
      go_loopw [16] (fun s16 wr => ∃ j : Nat, j ≤ F ∧ s16 = .int .i64 j ∧ Both w s q ⟨L.drop j, [], [], L.take j⟩ wr ∧ CMap wr kb 0 (fun _ => 0) []) (fun s16 _ => F - (intOf s16).toNat)
      case atStart => exact ⟨0, Nat.zero_le _, rfl, HBO.out, HM.out⟩
      case round =>
        clear HBO HM
        obtain ⟨j, hj, rfl, hBO, hM⟩ := hrel
        have HBO := Lib.hid hBO
        have HM := Lib.hid hM
        clear hBO hM
        by_cases hlt : j < F
        · have hlt' : (j : Int) < (F : Int) := by omega
          obtain ⟨hL, hfit, hnd⟩ := HLL.out
          have hd : L.drop j = L[j]'(by omega) :: L.drop (j + 1) := List.drop_eq_getElem_cons (by omega)
          have htk : L.take (j + 1) = L.take j ++ [L[j]'(by omega)] := List.take_succ_eq_append_getElem (by omega)
          have he : after s.n 1 0 ⟨L.drop j, [], [], L.take j⟩ = ⟨L.drop (j + 1), [], [], L.take (j + 1)⟩ := by
            rw [(tell_other (Or.inl rfl) s.n 0 _).2.2.2, if_neg (by rw [hd]; exact List.cons_ne_nil _ _), if_pos rfl]
            simp only [Rows.alloc]
            rw [hd, htk]
            rfl
          have hsz : (Rows.all ⟨L.drop j, [], [], L.take j⟩).length ≤ 40 := by simp [Rows.all]; omega
          have HE := Lib.hid (And.intro he hsz)
          clear hL hfit hnd hd htk he hsz
          have HF := Lib.hid HBO.out.fit
          go_wp2_with fail
          refine (did_any s q _ wr HBO.out.ring HBO.out.ref 1 0 HF.out.2.2.1 (by have := HE.out.2; omega) (fun h => absurd h (by decide))).mono ?_
          rintro e w3 ⟨rfl, hR, ht⟩
          rw [HE.out.1] at hR
          have HH := Lib.hid (HBO.out.half hR ht)
          replace HM := Lib.hid (HM.out.turn ht (by have := HBO.out.rq; omega) (by have := HBO.out.pq; omega) (by have := HBO.out.dq; omega))
          clear hR ht HBO
          unfold told
          go_wp2_with fail
          refine (rdo_any w3 q s.n _ HH.out.2.1 1 0 HF.out.2.2.1 HF.out.2.1 (by have := HE.out.2; omega)).mono ?_
          rintro e w4 ⟨rfl, hQ, ho⟩
          rw [HE.out.1] at hQ
          have HB4 := Lib.hid (both_of HH.out hQ ho)
          replace HM := Lib.hid (HM.out.one ho (by omega))
          clear hQ ho HH HF
          unfold told
          go_wp2_with fail
          exact ⟨⟨j + 1, by omega, by go_num, HB4.out, HM.out⟩, by simp [intOf]; omega⟩
        · obtain rfl : F = j := by omega
          have hsz : (Rows.all ⟨L.drop F, [], [], L.take F⟩).length ≤ 40 := by have := HLL.out.1; simp [Rows.all]; omega
          have HF := Lib.hid HBO.out.fit
          go_wp2_with fail
          refine (ring_begin s _ wr HBO.out.ring rfl rfl).mono ?_
          rintro e w3 ⟨rfl, hR, ht⟩
          have HH := Lib.hid (HBO.out.half hR ht)
          replace HM := Lib.hid (HM.out.turn ht (by have := HBO.out.rq; omega) (by have := HBO.out.pq; omega) (by have := HBO.out.dq; omega))
          clear hR ht HBO
          go_wp2_with fail
          refine (rdo_any w3 q s.n _ HH.out.2.1 5 0 HF.out.2.2.1 HF.out.2.1 (by omega)).mono ?_
          rintro e w4 ⟨rfl, hQ, ho⟩
          have he : after s.n 5 0 ⟨L.drop F, [], [], L.take F⟩ = Rows.begin ⟨L.drop F, [], [], L.take F⟩ := rfl
          rw [he] at hQ
          have HB4 : Hid (Both w s q ⟨L.drop F, L.take F, [], []⟩ w4) := Lib.hid (both_of HH.out hQ ho)
          replace HM := Lib.hid (HM.out.one ho (by omega))
          clear hQ ho HH HF he hsz
          unfold told
          go_wp2_with fail
          have HC : Hid (Cy w s q kb 0 L ⟨L.drop F, L.take F, [], []⟩ [] w4) := Lib.hid ⟨HB4.out, by
              refine List.perm_iff_count.2 fun a => ?_
              have h1 := congrArg (List.count a) (List.take_append_drop F L)
              simp only [Rows.all, List.count_append, List.count_nil] at *
              omega, by
              have e0 : ind [] = fun _ => 0 := by funext x; simp [ind]
              rw [e0]
              exact HM.out, List.Perm.nil, hkb⟩
          clear HB4 HM
          go_loopw [17] (fun s17 wr => ∃ (i : Nat) (R : Rows) (dom : List Int), i ≤ len ∧ s17 = .int .i64 i ∧ Cy w s q kb i L R dom wr) (fun s17 _ => len - (intOf s17).toNat)
          case atStart => exact ⟨0, _, _, Nat.zero_le _, rfl, HC.out⟩
          case round =>
            clear HC
            obtain ⟨i, R, dom, hi, rfl, hC⟩ := hrel
            have hRl : R.all.length = n := by rw [hC.perm.length_eq]; exact HLL.out.1
            have HF := Lib.hid hC.both.fit
            have HC := Lib.hid hC
            clear hC
            by_cases hlt : i < len
            · have hlt' : (i : Int) < (len : Int) := by omega
              obtain ⟨b, off, rfl, hbl, A, hcell⟩ := HNUM.out (by omega)
              obtain ⟨c0, -⟩ := hcell i hlt
              generalize A i = N at c0
              have HCW := Lib.hid c0
              replace c0 := (HC.out.both.below.cell (p := ⟨b, off + i, none⟩) hbl).trans c0
              clear hcell
              by_cases g : R.frm = []
              · go_wp2_with fail
                refine (shaded_any wr q s.n R HC.out.both.ref N (by omega)).mono ?_
                rintro e w5 ⟨rfl, e5⟩
                rw [show shadedAt N R = -1 from if_pos g]
                subst e5
                go_wp2_with fail
                exact ⟨⟨i + 1, R, dom, by omega, by go_num, ⟨HC.out.both, HC.out.perm, by have := HC.out.map; exact this.mono, HC.out.dom, HC.out.kq⟩⟩, by simp [intOf]; omega⟩
              · have hc := shaded_mem (N := N) g
                have hc1 := HF.out.2.2.2 _ (List.mem_append_right _ (List.mem_append_left _ hc))
                go_wp2_with fail
                refine (shaded_any wr q s.n R HC.out.both.ref N (by omega)).mono ?_
                rintro e w5 ⟨rfl, e5⟩
                subst e5
                obtain ⟨ip1, ip2, ip3⟩ := ind_put (HC.out.not_frm hc)
                have he : after s.n 2 N R = R.shade (shadedAt N R) := by unfold after; simp [g]
                generalize shadedAt N R = c at *
                have hwf := wf_small hc1.1 hc1.2
                have hlk := HC.out.map.look c hwf
                rw [ip3] at hlk
                have hc2 : (0 : Int) ≤ c := by omega
                have HE := Lib.hid (And.intro he (And.intro ip1 (And.intro ip2 hc)))
                clear he ip1 ip2 ip3 hc
                go_wp2_with (at_mapUpdate; refine wp_cput _ rfl _ _ _ rfl kb i (ind dom) dom rfl HC.out.map (by omega) c 1 rfl rfl hwf (by decide) ?_; intro w6 hM6 hg6; have HB6 := Lib.hid (HC.out.both.mapped HC.out.map hg6 HC.out.kq); rw [HE.out.2.1, HE.out.2.2.1] at hM6; have HM6 := Lib.hid hM6; have c6 := (HB6.out.below.cell (p := ⟨b, off + i, none⟩) hbl).trans HCW.out; clear hM6 hg6)
                refine (did_any s q R w6 HB6.out.ring HB6.out.ref 2 N HF.out.2.2.1 (by omega) (fun h => absurd h (by decide))).mono ?_
                rintro e w7 ⟨rfl, hR, ht⟩
                rw [HE.out.1] at hR
                have HH := Lib.hid (HB6.out.half hR ht)
                replace HM6 := Lib.hid (HM6.out.turn ht (by have := HB6.out.rq; omega) (by have := HB6.out.pq; omega) (by have := HB6.out.dq; omega))
                have c7 := (HH.out.2.2.1.cell (p := ⟨b, off + i, none⟩) hbl).trans HCW.out
                clear hR ht HB6 c6 c0 hlk
                unfold told
                go_wp2_with fail
                refine (rdo_any w7 q s.n R HH.out.2.1 2 N HF.out.2.2.1 HF.out.2.1 (by omega)).mono ?_
                rintro e w8 ⟨rfl, hQ, ho⟩
                rw [HE.out.1] at hQ
                have HB8 := Lib.hid (both_of HH.out hQ ho)
                replace HM6 := Lib.hid (HM6.out.one ho (by omega))
                clear hQ ho HH HF
                unfold told
                go_wp2_with fail
                exact ⟨⟨i + 1, R.shade c, c :: dom, by omega, by go_num, ⟨HB8.out, (shade_perm HE.out.2.2.2).trans HC.out.perm, HM6.out, shade_dom HC.out.dom, HC.out.kq⟩⟩, by simp [intOf]; omega⟩
            · obtain rfl : len = i := by omega
              clear HNUM
              obtain ⟨M, hM⟩ : ∃ M : Nat, (m : Int) % 8 = M := ⟨((m : Int) % 8).toNat, by omega⟩
              have hM1 : M ≤ 7 := by omega
              have r4 : IntKind.i64.wrap (M : Int) = (M : Int) := by rw [IntKind.wrap_i64]; omega
              go_wp2_with fail
              go_loopw [19] (fun s19 wr => ∃ (j : Nat) (R : Rows) (dom : List Int), j ≤ M ∧ s19 = .int .i64 j ∧ Cy w s q kb (len + j) L R dom wr) (fun s19 _ => M - (intOf s19).toNat)
              case atStart => exact ⟨0, R, dom, Nat.zero_le _, rfl, HC.out⟩
              case round =>
                clear HC HF hRl R dom
                obtain ⟨j, R, dom, hj, rfl, hC⟩ := hrel
                have hRl : R.all.length = n := by rw [hC.perm.length_eq]; exact HLL.out.1
                have HF := Lib.hid hC.both.fit
                have HC := Lib.hid hC
                clear hC
                by_cases hlt : j < M
                · have hlt' : (j : Int) < (M : Int) := by omega
                  obtain ⟨x1, x2, x3, x4⟩ := tell_other (K := 1) (Or.inl rfl) s.n 0 R
                  by_cases g : R.white = []
                  · rw [g] at x1
                    rw [if_pos g] at x3 x4
                    change tellC 1 R = 0 at x1
                    have HE := Lib.hid (And.intro x1 (And.intro x2 (And.intro x3 x4)))
                    clear x1 x2 x3 x4
                    go_wp2_with fail
                    refine (did_any s q R _ HC.out.both.ring HC.out.both.ref 1 0 HF.out.2.2.1 (by omega) (fun h => absurd h (by decide))).mono ?_
                    rintro e w7 ⟨rfl, hR, ht⟩
                    rw [HE.out.2.2.2] at hR
                    rw [HE.out.1, HE.out.2.1, HE.out.2.2.1]
                    have HH := Lib.hid (HC.out.both.half hR ht)
                    have HM6 := Lib.hid (HC.out.map.turn ht (by have := HC.out.both.rq; have := HC.out.kq; omega) (by have := HC.out.both.pq; have := HC.out.kq; omega) (by have := HC.out.both.dq; have := HC.out.kq; omega))
                    clear hR ht
                    unfold told
                    go_wp2_with fail
                    have hbx : Below w7.heap.size w7 (w7.alloc (.cells #[.int .i64 0, .bool false, .int .i64 2] 33)) := (Below.refl _ _).alloc (Nat.le_refl _) _
                    replace HH := Lib.hid (HH.out.later hbx)
                    replace HM6 := Lib.hid (HM6.out.later hbx)
                    generalize (w7.alloc (.cells #[.int .i64 0, .bool false, .int .i64 2] 33)) = x7 at *
                    clear hbx
                    refine (rdo_any x7 q s.n R HH.out.2.1 1 0 HF.out.2.2.1 HF.out.2.1 (by omega)).mono ?_
                    rintro e w8 ⟨rfl, hQ, ho⟩
                    rw [HE.out.2.2.2] at hQ
                    have HB8 := Lib.hid (both_of HH.out hQ ho)
                    replace HM6 := Lib.hid (HM6.out.one ho (by have := HC.out.kq; omega))
                    clear hQ ho HH HF
                    unfold told
                    go_wp2_with fail
                    exact ⟨⟨j + 1, R, dom, by omega, by go_num, ⟨HB8.out, HC.out.perm, HM6.out.mono, HC.out.dom, HC.out.kq⟩⟩, by simp [intOf]; omega⟩
                  · obtain ⟨c, l, hcl⟩ := List.exists_cons_of_ne_nil g
                    rw [hcl] at x1
                    rw [if_neg g] at x3 x4
                    rw [if_pos rfl] at x4
                    change tellC 1 R = c at x1
                    have hcw : c ∈ R.white := by rw [hcl]; exact List.mem_cons_self ..
                    have hc1 := HF.out.2.2.2 c (List.mem_append_left _ hcw)
                    have hwf := wf_small hc1.1 hc1.2
                    obtain ⟨ip1, ip2, ip3⟩ := ind_put (HC.out.not_white hcw)
                    have HE := Lib.hid (And.intro x1 (And.intro x2 (And.intro x3 (And.intro x4 (And.intro ip1 (And.intro ip2 (And.intro ip3 hcl)))))))
                    clear x1 x2 x3 x4 ip1 ip2 ip3 hcw hcl
                    go_wp2_with fail
                    refine (did_any s q R _ HC.out.both.ring HC.out.both.ref 1 0 HF.out.2.2.1 (by omega) (fun h => absurd h (by decide))).mono ?_
                    rintro e w7 ⟨rfl, hR, ht⟩
                    rw [HE.out.2.2.2.1] at hR
                    rw [HE.out.1, HE.out.2.1, HE.out.2.2.1]
                    have HH := Lib.hid (HC.out.both.half hR ht)
                    have HM6 := Lib.hid (HC.out.map.turn ht (by have := HC.out.both.rq; have := HC.out.kq; omega) (by have := HC.out.both.pq; have := HC.out.kq; omega) (by have := HC.out.both.dq; have := HC.out.kq; omega))
                    clear hR ht
                    unfold told
                    have hbx : Below w7.heap.size w7 (w7.alloc (.cells #[.int .i64 c, .bool false, .int .i64 0] 33)) := (Below.refl _ _).alloc (Nat.le_refl _) _
                    replace HH := Lib.hid (HH.out.later hbx)
                    replace HM6 := Lib.hid (HM6.out.later hbx)
                    have hlk := HM6.out.look c hwf
                    rw [HE.out.2.2.2.2.2.2.1] at hlk
                    clear hbx
                    go_wp2_with (at_mapUpdate; refine wp_cput _ rfl _ _ _ rfl kb (len + j) (ind dom) dom rfl HM6.out (by omega) c 1 rfl rfl hwf (by decide) ?_; intro w8 hM8 hg8; have HH8 := Lib.hid (HH.out.mapped HM6.out hg8 HC.out.kq); rw [HE.out.2.2.2.2.1, HE.out.2.2.2.2.2.1] at hM8; have HM8 := Lib.hid hM8; clear hM8 hg8 hlk)
                    refine (rdo_any w8 q s.n R HH8.out.2.1 1 0 HF.out.2.2.1 HF.out.2.1 (by omega)).mono ?_
                    rintro e w9 ⟨rfl, hQ, ho⟩
                    rw [HE.out.2.2.2.1] at hQ
                    have HB9 := Lib.hid (both_of HH8.out hQ ho)
                    replace HM8 := Lib.hid (HM8.out.one ho (by have := HC.out.kq; omega))
                    clear hQ ho HH HH8 HF HM6
                    unfold told
                    go_wp2_with fail
                    exact ⟨⟨j + 1, R.alloc, c :: dom, by omega, by go_num, ⟨HB9.out, (alloc_perm HE.out.2.2.2.2.2.2.2).trans HC.out.perm, HM8.out, alloc_dom HE.out.2.2.2.2.2.2.2 HC.out.dom, HC.out.kq⟩⟩, by simp [intOf]; omega⟩
                · obtain rfl : M = j := by omega
                  go_wp2_with fail
                  have HZ := Lib.hid HC.out.cz
                  have hg0 : R.grey.length ≤ n := by
                    have : R.all.length = R.white.length + (R.frm.length + (R.grey.length + R.black.length)) := by unfold Rows.all; simp
                    omega
                  clear HC HF hM
                  go_loopw [21] (fun s21 wr => ∃ (k : Nat) (R : Rows), k ≤ n ∧ s21 = .int .i64 k ∧ R.grey.length ≤ n - k ∧ Cz w s kb (len + M) L R dom wr) (fun s21 _ => n - (intOf s21).toNat)
                  case atStart => exact ⟨0, R, Nat.zero_le _, rfl, hg0, HZ.out⟩
                  case round =>
                    clear HZ hRl hg0 R
                    obtain ⟨k, R, hk, rfl, hgk, hZ⟩ := hrel
                    have HZ := Lib.hid hZ
                    clear hZ
                    by_cases hlt : k < n
                    · have hlt' : (k : Int) < (n : Int) := by omega
                      by_cases g : R.grey = []
                      · go_wp2_with fail
                        refine (ring_next_none s R _ HZ.out.ring g).mono ?_
                        rintro e w7 ⟨rfl, e7⟩
                        subst e7
                        go_wp2_with fail
                        go_roundw
                        case rel => exact ⟨k + 1, R, by omega, by go_num, by rw [g]; exact Nat.zero_le _, HZ.out⟩
                        case measure => simp [intOf]; omega
                      · obtain ⟨l, c, hlc⟩ : ∃ l c, R.grey = l ++ [c] := ⟨_, _, (List.dropLast_concat_getLast g).symm⟩
                        have HE := Lib.hid hlc
                        have hl1 : R.done.grey.length ≤ n - (k + 1) := by
                          simp only [Rows.done]
                          rw [List.length_dropLast]
                          omega
                        clear hlc
                        go_wp2_with fail
                        refine (ring_next s R _ HZ.out.ring c l HE.out).mono ?_
                        rintro e w7 ⟨rfl, hR, ht⟩
                        have HZ7 := Lib.hid (HZ.out.turn hR ht (List.Perm.refl _) (List.Perm.refl _))
                        clear hR ht HZ
                        go_wp2_with fail
                        refine (ring_done s R _ HZ7.out.ring c l HE.out).mono ?_
                        rintro e w8 ⟨rfl, hR, ht⟩
                        have HZ8 := Lib.hid (HZ7.out.turn hR ht (done_perm HE.out).1 (done_perm HE.out).2)
                        clear hR ht HZ7
                        go_wp2_with fail
                        go_roundw
                        case rel => exact ⟨k + 1, R.done, by omega, by go_num, hl1, HZ8.out⟩
                        case measure => simp [intOf]; omega
                    · obtain rfl : n = k := by omega
                      have g : R.grey = [] := List.eq_nil_of_length_eq_zero (by omega)
                      go_wp2_with fail
                      refine (ring_end s R _ HZ.out.ring g).mono ?_
                      rintro e w7 ⟨rfl, hR, ht⟩
                      have HZ7 := Lib.hid (HZ.out.turn hR ht fin_perm.1 fin_perm.2)
                      have hgf : R.fin.grey = [] := g
                      have hff : R.fin.frm = [] := rfl
                      clear hR ht HZ
                      generalize R.fin = R' at *
                      clear g hgk R
                      go_wp2_with fail
                      refine (ring_list s R' _ HZ7.out.ring).mono ?_
                      rintro e w8 ⟨v0, v1, v2, v3, rfl, r0, r1, r2, r3, hR, ht⟩
                      have HZ8 := Lib.hid (HZ7.out.turn hR ht (List.Perm.refl _) (List.Perm.refl _))
                      obtain ⟨o0, p0, rfl, -⟩ := r0
                      obtain ⟨o1, p1, rfl, -⟩ := r1
                      obtain ⟨o2, p2, rfl, -⟩ := r2
                      obtain ⟨o3, p3, rfl, hx3⟩ := r3
                      simp only [hgf, hff, List.length_nil] at hx3 ⊢
                      have hkl : kb < w8.heap.size := HZ8.out.map.lt
                      have hdl : dom.length = R'.black.length := by rw [HZ8.out.dom.length_eq, hgf]; simp
                      have hwl : R'.white.length + R'.black.length = n := by
                        have h1 := HZ8.out.perm.length_eq
                        rw [HLL.out.1] at h1
                        unfold Rows.all at h1
                        rw [hgf, hff] at h1
                        simpa using h1
                      have HX3 := Lib.hid hx3
                      clear hR ht HZ7 hx3
                      go_wp2_with fail
                      have hbl : Below w8.heap.size w8 (w8.alloc (.cells #[.slice o0 R'.white.length (R'.white.length + p0), .slice o1 0 p1, .slice o2 0 p2, .slice o3 R'.black.length (R'.black.length + p3)] 39)) := (Below.refl _ _).alloc (Nat.le_refl _) _
                      have m0 : (w8.alloc (.cells #[.slice o0 R'.white.length (R'.white.length + p0), .slice o1 0 p1, .slice o2 0 p2, .slice o3 R'.black.length (R'.black.length + p3)] 39)).cell? ⟨w8.heap.size, 0, none⟩ = some (.slice o0 R'.white.length (R'.white.length + p0)) := by simp [go_sem]
                      have m1 : (w8.alloc (.cells #[.slice o0 R'.white.length (R'.white.length + p0), .slice o1 0 p1, .slice o2 0 p2, .slice o3 R'.black.length (R'.black.length + p3)] 39)).cell? ⟨w8.heap.size, 1, none⟩ = some (.slice o1 0 p1) := by simp [go_sem]
                      have m2 : (w8.alloc (.cells #[.slice o0 R'.white.length (R'.white.length + p0), .slice o1 0 p1, .slice o2 0 p2, .slice o3 R'.black.length (R'.black.length + p3)] 39)).cell? ⟨w8.heap.size, 2, none⟩ = some (.slice o2 0 p2) := by simp [go_sem]
                      have m3 : (w8.alloc (.cells #[.slice o0 R'.white.length (R'.white.length + p0), .slice o1 0 p1, .slice o2 0 p2, .slice o3 R'.black.length (R'.black.length + p3)] 39)).cell? ⟨w8.heap.size, 3, none⟩ = some (.slice o3 R'.black.length (R'.black.length + p3)) := by simp [go_sem]
                      have HZ9 := Lib.hid (HZ8.out.later hbl)
                      have HBL := Lib.hid hbl
                      have HXX : ∀ i x, R'.black[i]? = some x → ∃ g, o3 = some ⟨g, 0, none⟩ ∧ (w8.alloc (.cells #[.slice o0 R'.white.length (R'.white.length + p0), .slice o1 0 p1, .slice o2 0 p2, .slice o3 R'.black.length (R'.black.length + p3)] 39)).cell? ⟨g, i, none⟩ = some (.int .i64 x) := fun i x hx => by
                        obtain ⟨g, e, _, _, h⟩ := HX3.out (by have := (List.getElem?_eq_some_iff.1 hx).1; omega)
                        exact ⟨g, e, later' hbl (h i x hx)⟩
                      generalize (w8.alloc (.cells #[.slice o0 R'.white.length (R'.white.length + p0), .slice o1 0 p1, .slice o2 0 p2, .slice o3 R'.black.length (R'.black.length + p3)] 39)) = x9 at *
                      replace HXX := Lib.hid HXX
                      generalize w8.heap.size = lb at *
                      have hln := fun ty => HZ9.out.map.len ty
                      rw [hdl] at hln
                      have hn9 : R'.black.length ≤ n := by omega
                      have r9 : IntKind.i64.wrap ((n : Int) - (R'.black.length : Int)) = (R'.white.length : Int) := by rw [IntKind.wrap_i64]; omega
                      have r8 : (n : Int) - (R'.black.length : Int) = (R'.white.length : Int) := by omega
                      clear hbl HX3 HZ8 HBL
                      go_loopw [25] (fun s25 wr => ∃ i : Nat, i ≤ R'.black.length ∧ s25 = .int .i64 i ∧ x9 = wr) (fun s25 _ => R'.black.length - (intOf s25).toNat)
                      case atStart => exact ⟨0, Nat.zero_le _, rfl, rfl⟩
                      case round =>
                        obtain ⟨i, hi, rfl, rfl⟩ := hrel
                        by_cases hlt : i < R'.black.length
                        · have hlt' : (i : Int) < (R'.black.length : Int) := by omega
                          obtain ⟨gb, rfl, cx⟩ := HXX.out i _ (List.getElem?_eq_getElem hlt)
                          have hx := List.getElem_mem hlt
                          generalize R'.black[i]'hlt = x at cx hx
                          have hxd : x ∈ dom := HZ9.out.dom.mem_iff.2 (List.mem_append_right _ hx)
                          have hxr : 1 ≤ x ∧ x ≤ 65536 := by
                            obtain ⟨_, _, _, hL, hI⟩ := HZ9.out.ring
                            have h1 := hI.fit.rng x (by unfold Rows.all; simp [hx])
                            have h2 := hL.nb
                            omega
                          have hlk := HZ9.out.map.look x (wf_small hxr.1 hxr.2)
                          rw [show ind dom x = 1 from if_pos hxd] at hlk
                          clear hx hxd hxr hln
                          go_wp2_with fail
                          exact ⟨⟨i + 1, by omega, by go_num, by first | rfl | trivial⟩, by simp [intOf]; omega⟩
                        · have hib : i = R'.black.length := by omega
                          subst hib
                          go_wp2_with fail
                          go_ret
                          exact ⟨rfl, HZ9.out.below⟩

end Go.Proofs.Ytcahdmnhdeofoaa
