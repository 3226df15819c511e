/- WeakBuries: what each call of its walk does. -/
import Derived.Test.YthliahaopelooaaWlL
import Derived.Test.YthliahaopelooaaWlM
namespace Go.Proofs.Ythliahaopelooaa
open Go.RowKit

theorem Tbl.wks {m : LM} {row queue : List Int} (h : Tbl m row queue) (ws : List Int) : Tbl { m with weaks := ws } row queue := h.other ⟨rfl, rfl, rfl, rfl, rfl, rfl⟩ (fun _ _ => rfl) fun o ho => ⟨o, ho, rfl, rfl⟩

section
variable {Kx : Nat → Prop} {S : LSp} {m : LM} {W : World} {F : List Int} {rn qn : List Nat} {mk : Nat → Bool}
theorem ls_cell (h : LS Kx S m F rn qn mk W) {n : Nat} (hq : n ∈ qn) : Calls Try.prog 20 #[.pointer (some ⟨S.hb, 0, none⟩), .int .i64 (pl m n)] W fun e w' => (∃ om : Int, e = .returned (.tuple #[.agg #[.int .i64 10, .int .i64 4, .int .i64 n, .int .i64 om], .int .i64 0])) ∧ LS Kx S m F rn qn mk w' ∧ Kp Kx W w' := by
  obtain ⟨u, hu⟩ := h.lm
  obtain ⟨o, b1, b2, b3, b4, b5, b6⟩ := h.ws.wk n (h.ws.ql n hq)
  have hc := lm_cell hu b1
  rw [b2, b3, b4, b6 hq] at hc
  refine hc.mono ?_
  rintro e w' ⟨rfl, u', hl, hk, -⟩
  exact ⟨⟨o.m, rfl⟩, ⟨⟨u', hl⟩, h.ws, h.mks, h.dr, h.ma, h.sl⟩, hk⟩
theorem ls_get (h : LS Kx S m F rn qn mk W) {n : Nat} (hq : n ∈ qn) {j : Int} (j0 : 0 ≤ j) (j1 : j < 4) {v : Int} (hv : m.V (pl m n) j = v) : Calls Try.prog 21 #[.pointer (some ⟨S.hb, 0, none⟩), .int .i64 (pl m n), .int .i64 j] W fun e w' => e = .returned (.tuple #[.int .i64 v, .int .i64 0]) ∧ LS Kx S m F rn qn mk w' ∧ Kp Kx W w' := by
  obtain ⟨u, hu⟩ := h.lm
  obtain ⟨o, b1, b2, b3, b4, b5, b6⟩ := h.ws.wk n (h.ws.ql n hq)
  have hc := lm_get hu b1 (j := j) j0 (by rw [b3]; exact j1)
  rw [b2, hv] at hc
  refine hc.mono ?_
  rintro e w' ⟨rfl, u', hl, hk, -⟩
  exact ⟨rfl, ⟨⟨u', hl⟩, h.ws, h.mks, h.dr, h.ma, h.sl⟩, hk⟩
end

/-- Where the walk stands. -/
structure Lb (W0 : World) (S : LSp) (O k : Nat) (mk : Nat → Bool) (m : LM) (F : List Int) (pre qn : List Nat) (W : World) : Prop where
  ls : LS (fun b => b < W0.heap.size) S m F (pre ++ dn (O - k)) qn mk W
  n : m.weaks.length = O
  nx : Nx m O k
  kp : Kp (fun b => b < W0.heap.size) W0 W
section
variable {W0 W : World} {S : LSp} {O k : Nat} {m : LM} {F : List Int} {pre qn : List Nat} {mk : Nat → Bool}
theorem Lb.c0 (h : Lb W0 S O k mk m F pre qn W) : W.cell? ⟨S.wb, 0, none⟩ = some (.pointer (some ⟨S.hb, 0, none⟩)) := by
  obtain ⟨u, hu⟩ := h.ls.lm
  exact hu.c0
theorem Lb.c1 (h : Lb W0 S O k mk m F pre qn W) : W.cell? ⟨S.wb, 1, none⟩ = some (.pointer (some ⟨S.tb, 0, none⟩)) := by
  obtain ⟨u, hu⟩ := h.ls.lm
  exact hu.c1
theorem Lb.c4 (h : Lb W0 S O k mk m F pre qn W) : ∃ a cap, W.cell? ⟨S.wb, 4, none⟩ = some (.slice a O cap) ∧ ∀ i, i < O → ∃ g, a = some ⟨g, 0, none⟩ ∧ W.cell? ⟨g, i, none⟩ = some (.int .i64 (pl m i)) := by
  obtain ⟨u, hu⟩ := h.ls.lm
  obtain ⟨a, cap, h1, h2⟩ := hu.weaksAt
  rw [h.n] at h1 h2
  exact ⟨a, cap, h1, h2⟩
theorem lb_keep (h : Lb W0 S O k mk m F pre qn W) (hk : k < O) (hO : O < 100) (hm : mk (O - 1 - k) = true) :
    Calls Try.prog 15 #[.pointer (some ⟨S.tb, 0, none⟩)] W fun e w' => e = .returned (.tuple #[.int .i64 (O - 1 - k : Nat), .bool false, .bool true]) ∧ ∃ m' pre', Lb W0 S O (k + 1) mk m' F pre' qn w' := by
  have h1 := h.ls
  rw [dn_step hk] at h1
  have hs := ls_step h1 (h.nx.1 hk) (by have := h.n; omega)
  rw [hm] at hs
  simp only [if_true, Bool.not_true] at hs
  refine hs.mono ?_
  rintro e w' ⟨rfl, m', hl, hk', hw, -, hx, -⟩
  refine ⟨rfl, m', pre ++ [O - 1 - k], ⟨?_, by rw [hw]; exact h.n, Nx.next hw hx, h.kp.trans hk'⟩⟩
  rw [show O - (k + 1) = O - 1 - k by omega, List.append_assoc]
  exact hl
theorem lb_bury (h : Lb W0 S O k mk m F pre qn W) (hk : k < O) (hO : O < 100) (hm : mk (O - 1 - k) = false) :
    Calls Try.prog 15 #[.pointer (some ⟨S.tb, 0, none⟩)] W fun e w' => e = .returned (.tuple #[.int .i64 (O - 1 - k : Nat), .bool true, .bool true]) ∧ ∃ m', Lb W0 S O (k + 1) mk m' F pre (qn ++ [O - 1 - k]) w' := by
  have h1 := h.ls
  rw [dn_step hk] at h1
  have hs := ls_step h1 (h.nx.1 hk) (by have := h.n; omega)
  rw [hm] at hs
  simp only [Bool.false_eq_true, if_false, Bool.not_false] at hs
  refine hs.mono ?_
  rintro e w' ⟨rfl, m', hl, hk', hw, -, hx, -⟩
  refine ⟨rfl, m', ⟨?_, by rw [hw]; exact h.n, Nx.next hw hx, h.kp.trans hk'⟩⟩
  rw [show O - (k + 1) = O - 1 - k by omega]
  exact hl
theorem lb_none (h : Lb W0 S O O mk m F pre qn W) :
    Calls Try.prog 15 #[.pointer (some ⟨S.tb, 0, none⟩)] W fun e w' => e = .returned (.tuple #[.int .i64 0, .bool false, .bool false]) ∧ Lb W0 S O (O + 1) mk m F pre qn w' := by
  refine (ls_step0 h.ls (h.nx.2 rfl)).mono ?_
  rintro e w' ⟨rfl, hl, hk⟩
  refine ⟨rfl, ⟨?_, h.n, ⟨fun hh => by omega, fun hh => by omega⟩, h.kp.trans hk⟩⟩
  rw [show O - (O + 1) = O - O by omega]
  exact hl
theorem lb_cell (h : Lb W0 S O k mk m F pre qn W) {n : Nat} (hq : n ∈ qn) : Calls Try.prog 20 #[.pointer (some ⟨S.hb, 0, none⟩), .int .i64 (pl m n)] W fun e w' => (∃ om : Int, e = .returned (.tuple #[.agg #[.int .i64 10, .int .i64 4, .int .i64 n, .int .i64 om], .int .i64 0])) ∧ Lb W0 S O k mk m F pre qn w' := by
  refine (ls_cell h.ls hq).mono ?_
  rintro e w' ⟨he, hl, hk⟩
  exact ⟨he, hl, h.n, h.nx, h.kp.trans hk⟩
theorem lb_get (h : Lb W0 S O k mk m F pre qn W) {n : Nat} (hq : n ∈ qn) {j : Int} (j0 : 0 ≤ j) (j1 : j < 4) {v : Int} (hv : m.V (pl m n) j = v) : Calls Try.prog 21 #[.pointer (some ⟨S.hb, 0, none⟩), .int .i64 (pl m n), .int .i64 j] W fun e w' => e = .returned (.tuple #[.int .i64 v, .int .i64 0]) ∧ Lb W0 S O k mk m F pre qn w' := by
  refine (ls_get h.ls hq j0 j1 hv).mono ?_
  rintro e w' ⟨he, hl, hk⟩
  exact ⟨he, hl, h.n, h.nx, h.kp.trans hk⟩
theorem Lb.later {W' : World} (h : Lb W0 S O k mk m F pre qn W) (hb : Below W.heap.size W W') : Lb W0 S O k mk m F pre qn W' := by
  obtain ⟨h1, h2⟩ := h.ls.later hb
  exact ⟨h1, h.n, h.nx, h.kp.trans h2⟩
end

/-- How many are in the queue, as the table has it. -/
def tbCn (S : LSp) (W : World) : Nat := match W.cell? ⟨S.tb, 7, none⟩ with
  | some v => (intOf v).toNat
  | none => 0
/-- Where the taking stands: the law's row is stored to. -/
structure Lg (W0 : World) (S : LSp) (O : Nat) (m : LM) (F : List Int) (rn qn : List Nat) (ws : List Int) (W : World) : Prop where
  lm : ∃ u, Lm (fun b => b < W0.heap.size) S { m with weaks := ws } u W
  st : Wst m F rn qn
  wl : ws.length = O
  wq : ∀ n, n ∈ qn → ws.getD n 0 = pl m n
  n : m.weaks.length = O
  sl : m.shaded.length + 2 * (rn.length + qn.length) ≤ 2 * O
  kp : Kp (fun b => b < W0.heap.size) W0 W
section
variable {W0 W : World} {S : LSp} {O : Nat} {m : LM} {F : List Int} {rn qn qs : List Nat} {ws : List Int} {n : Nat}
theorem Lb.lg {k : Nat} {mk : Nat → Bool} {pre : List Nat} (h : Lb W0 S O k mk m F pre qn W) : Lg W0 S O m F (pre ++ dn (O - k)) qn m.weaks W :=
  ⟨h.ls.lm, h.ls.ws, h.n, fun _ _ => rfl, h.n, by have := h.ls.sl; rw [h.n] at this; exact this, h.kp⟩
theorem Lg.c0 (h : Lg W0 S O m F rn qn ws W) : W.cell? ⟨S.wb, 0, none⟩ = some (.pointer (some ⟨S.hb, 0, none⟩)) := by
  obtain ⟨u, hu⟩ := h.lm
  exact hu.c0
theorem Lg.c1 (h : Lg W0 S O m F rn qn ws W) : W.cell? ⟨S.wb, 1, none⟩ = some (.pointer (some ⟨S.tb, 0, none⟩)) := by
  obtain ⟨u, hu⟩ := h.lm
  exact hu.c1
theorem Lg.cn (h : Lg W0 S O m F rn qn ws W) : tbCn S W = qn.length := by
  obtain ⟨u, hu⟩ := h.lm
  have := hu.a3.1.cn
  have e := h.st.tbl.cn
  rw [List.length_map] at e
  unfold tbCn
  rw [this]
  show (intOf (.int .i64 m.cn)).toNat = _
  rw [e]
  simp [intOf]
theorem lg_take (h : Lg W0 S O m F rn (n :: qs) ws W) (hO : O < 100) :
    Calls Try.prog 17 #[.pointer (some ⟨S.tb, 0, none⟩)] W fun e w' => e = .returned (.tuple #[.int .i64 (pl m n), .int .i64 n, .int .i64 (F.getD n 0), .bool true]) ∧ ∃ m', Lg W0 S O m' F rn qs ws w' ∧ m'.shaded = (m.shaded ++ [F.getD n 0]) ++ [(qs.map (pl m)).headD 0] ∧ (∃ o, o ∈ m'.O ∧ o.p = pl m n ∧ o.s = 4) ∧ m'.V (pl m n) 2 = 0 ∧ m'.V (pl m n) 3 = 0 := by
  obtain ⟨u, hu⟩ := h.lm
  obtain ⟨o, b1, b2, b3, b4, b5, b6⟩ := h.st.wk n (h.st.ql n (by simp))
  have ht := h.st.tbl
  rw [List.map_cons, ← b2] at ht
  have e2 : m.V o.p 2 = F.getD n 0 := by
    rw [b2]
    exact h.st.vf n (Or.inr (by simp))
  have hcn := ht.cn
  have hln := h.st.ln
  have hsl := h.sl
  have hn := h.n
  simp only [List.length_cons, List.length_map] at hcn hln hsl
  refine (wtake_some hu b1 b3 (ht.wks ws) (by show m.shaded.length < 90000; omega) (by show m.cn < 100000; omega)).mono ?_
  rintro e w' ⟨rfl, u', hl, hk, -⟩
  have hl2 : Lm (fun b => b < W0.heap.size) S (taken { { m with weaks := ws } with shaded := (m.shaded ++ [m.V o.p 2]) ++ [(qs.map (pl m)).headD 0] } o.p ((qs.map (pl m)).headD 0)) u' w' := hl
  rw [e2, b2] at hl2
  refine ⟨?_, takenL m F n qs, ⟨⟨u', hl2⟩, h.st.take, h.wl, fun i hi => h.wq i (List.mem_cons_of_mem _ hi), h.n, ?_, h.kp.trans hk⟩, rfl, ⟨o, b1, b2, b3⟩, ?_, ?_⟩
  · show Ending.returned (.tuple #[.int .i64 o.p, .int .i64 o.a, .int .i64 (m.V o.p 2), .bool true]) = _
    rw [e2, b4, b2]
  · show ((m.shaded ++ [F.getD n 0]) ++ [(qs.map (pl m)).headD 0]).length + _ ≤ _
    simp only [List.length_append, List.length_cons, List.length_nil]
    omega
  · show vset (vset m.V (pl m n) 2 0) (pl m n) 3 0 (pl m n) 2 = 0
    rw [vset_other (Or.inr (by decide)), vset_same]
  · show vset (vset m.V (pl m n) 2 0) (pl m n) 3 0 (pl m n) 3 = 0
    rw [vset_same]
theorem lg_none (h : Lg W0 S O m F rn [] ws W) :
    Calls Try.prog 17 #[.pointer (some ⟨S.tb, 0, none⟩)] W fun e w' => e = .returned (.tuple #[.int .i64 0, .int .i64 0, .int .i64 0, .bool false]) ∧ Lg W0 S O m F rn [] ws w' := by
  obtain ⟨u, hu⟩ := h.lm
  refine (wtake_none hu h.st.tbl.qu).mono ?_
  rintro e w' ⟨rfl, u', hl, hk, -⟩
  exact ⟨rfl, ⟨⟨u', hl⟩, h.st, h.wl, h.wq, h.n, h.sl, h.kp.trans hk⟩⟩
theorem lg_get (h : Lg W0 S O m F rn qn ws W) {p : Int} (ho : ∃ o, o ∈ m.O ∧ o.p = p ∧ o.s = 4) {j v : Int} (j0 : 0 ≤ j) (j1 : j < 4) (hv : m.V p j = v) : Calls Try.prog 21 #[.pointer (some ⟨S.hb, 0, none⟩), .int .i64 p, .int .i64 j] W fun e w' => e = .returned (.tuple #[.int .i64 v, .int .i64 0]) ∧ Lg W0 S O m F rn qn ws w' := by
  obtain ⟨u, hu⟩ := h.lm
  obtain ⟨o, b1, b2, b3⟩ := ho
  have hc := lm_get hu b1 (j := j) j0 (by rw [b3]; exact j1)
  rw [b2] at hc
  refine hc.mono ?_
  rintro e w' ⟨rfl, u', hl, hk, -⟩
  refine ⟨?_, ⟨⟨u', hl⟩, h.st, h.wl, h.wq, h.n, h.sl, h.kp.trans hk⟩⟩
  show Ending.returned (.tuple #[.int .i64 (m.V p j), .int .i64 0]) = _
  rw [hv]
theorem lg_queue (h : Lg W0 S O m F rn [] ws W) :
    Calls Try.prog 22 #[.pointer (some ⟨S.tb, 0, none⟩)] W fun e w' => (∃ a cap, e = .returned (.slice a 0 cap)) ∧ Kp (fun b => b < W0.heap.size) W0 w' := by
  obtain ⟨u, hu⟩ := h.lm
  refine (queue_any hu (h.st.tbl.wks ws) (by simp)).mono ?_
  rintro e w' ⟨v, rfl, hv, hl, hk⟩
  obtain ⟨a, cap, rfl, -⟩ := rw_at hv
  exact ⟨⟨a, cap, rfl⟩, h.kp.trans hk⟩
theorem Lg.row (h : Lg W0 S O m F rn qn ws W) (hO : 0 < O) : ∃ g cap, W.cell? ⟨S.wb, 4, none⟩ = some (.slice (some ⟨g, 0, none⟩) O cap) ∧ (∀ i, i < O → W.cell? ⟨g, i, none⟩ = some (.int .i64 (ws.getD i 0))) ∧ (∀ j, W.frozen? ⟨g, j, none⟩ = false) ∧ ∀ q, q ∉ qn → Lg W0 S O m F rn qn (ws.set q 0) (W.setCell ⟨g, q, none⟩ (.int .i64 0)) := by
  obtain ⟨u, hu⟩ := h.lm
  have hwl := h.wl
  obtain ⟨g, cap, h1, h2, h3, h4⟩ := hu.weak_set (by show 0 < ws.length; omega)
  refine ⟨g, cap, ?_, fun i hi => h2 i (by show i < ws.length; omega), h3, fun q hq => ?_⟩
  · rw [← hwl]
    exact h1
  · obtain ⟨h5, h6⟩ := h4 q 0
    refine ⟨⟨u, h5⟩, h.st, by rw [List.length_set]; exact hwl, fun i hi => ?_, h.n, h.sl, h.kp.trans h6⟩
    rw [List.getD_eq_getElem?_getD, List.getElem?_set_ne (fun e => hq (by rw [e]; exact hi)), ← List.getD_eq_getElem?_getD]
    exact h.wq i hi
theorem Lg.sh (h : Lg W0 S O m F rn qn ws W) : ∃ a cap, W.cell? ⟨S.wb, 6, none⟩ = some (.slice a m.shaded.length cap) ∧ ∀ i, i < m.shaded.length → ∃ g, a = some ⟨g, 0, none⟩ ∧ W.cell? ⟨g, i, none⟩ = some (.int .i64 (m.shaded.getD i 0)) := by
  obtain ⟨u, hu⟩ := h.lm
  exact hu.shadedAt
end

end Go.Proofs.Ythliahaopelooaa
