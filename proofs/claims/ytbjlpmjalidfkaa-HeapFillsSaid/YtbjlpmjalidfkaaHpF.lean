/- A cell for an object of a size: of a class, or large. -/
import Derived.Test.YtbjlpmjalidfkaaHpE
import Derived.Test.YtbjlpmjalidfkaaCeC
namespace Go.Proofs.Ytbjlpmjalidfkaa
open Go.RowKit

theorem spot_cov {lo hi n : Int} {L : List (Int × Int)} (hG : Ex.Good lo hi L) (hn : 1 ≤ n) (he : Ex.tErr n L = 0) : lo ≤ Ex.tAt n L ∧ Ex.tAt n L + n ≤ hi ∧ ∀ m, Ex.tAt n L ≤ m → m < Ex.tAt n L + n → Ex.Cov L m := by
  rcases Ex.spot_cases n L with h | ⟨A, a, k, B, rfl, hA, hk⟩
  · unfold Ex.tErr at he
    rw [if_neg (by omega), Ex.spot_none h] at he
    simp at he
  · have e : Ex.tAt n (A ++ (a, k) :: B) = a := by
      unfold Ex.tAt
      rw [if_neg (by omega), Ex.spot_some hA hk]
      rfl
    rw [e]
    have hm : ((a, k) : Int × Int) ∈ A ++ (a, k) :: B := by simp
    have hb := Ex.good_mem hG hm
    simp only at hb
    exact ⟨hb.1, by omega, fun m h1 h2 => ⟨_, hm, by simp only; omega, by simp only; omega⟩⟩

/-- The room has been asked. -/
theorem HLies.setRoom {x : HSpot} {T : Nat → Nat} {D : Nat → Int} {R : Nat → Rows} {top par : Int} {L M : List (Int × Int)} {w w' : World} {cb g g' : Nat} (h : HLies x T D R top par L w) (hT : Tags x T cb g) (hR : Ex.Room w' x.rp g' x.lim (x.n - x.lim : Int) M) (hq : Ex.Apart x.rp g w w') (hg : g' = g ∨ w.heap.size ≤ g')
    (hgl : g < w.heap.size) (hc : ∃ cap, w.cell? ⟨x.h, 1, none⟩ = some (.slice (some ⟨cb, 0, none⟩) x.k cap)) (hcs : ∀ i, i < x.k → w.cell? ⟨cb, i * 2, none⟩ = some (.int .i64 (x.sz i)) ∧ w.cell? ⟨cb, i * 2 + 1, none⟩ = some (.pointer (some ⟨(x.S i).r, 0, none⟩))) (hrl : x.rp < w.heap.size) :
    ∃ T', HLies x T' D R top par M w' ∧ HTurn T T' w w' := by
  obtain ⟨cap, hc⟩ := hc
  obtain ⟨u, hu⟩ := h.at
  have nr : ∀ b, T b ≠ 4 → b ≠ x.rp ∧ b ≠ g := fun b hb => ⟨fun e => hb (by rw [e]; exact hT.rp), fun e => hb (by rw [e]; exact hT.g)⟩
  have hk : ∀ b, b < w.heap.size → T b ≠ 4 → w'.heap[b]? = w.heap[b]? := fun b hl hb => hq.block b hl (nr b hb).1 (nr b hb).2
  have o : ∀ (b j : Nat) (v : Value), T b ≠ 4 → w.cell? ⟨b, j, none⟩ = some v → w'.cell? ⟨b, j, none⟩ = some v := fun b j v hb hv => (World.cell?_of_block (w := w) (hk b (World.block_lt_of_cell? _ _ hv) hb)).trans hv
  have t : ∀ b, b < w.heap.size → (fun b => if b < w.heap.size then T b else 4) b = T b := fun b hb => if_pos hb
  have h0 : T x.h ≠ 4 := by rw [hT.h]; omega
  have hA : At w' x.p x.d x.n D u := hu.move (hk _ hu.lp (by rw [hT.p]; omega)) (hk _ hu.ld (by rw [hT.d]; omega)) hq.size
  have lcb : cb < w.heap.size := World.block_lt_of_cell? _ _ (hcs 0 (by have := h.k1; omega)).1
  refine ⟨fun b => if b < w.heap.size then T b else 4, ⟨o _ _ _ h0 h.arena, o _ _ _ h0 h.large, o _ _ _ h0 h.room, o _ _ _ h0 h.top, o _ _ _ h0 h.lim, o _ _ _ h0 h.par, fun j => (World.frozen?_of_block (w := w) (hk x.h h.lh h0)).trans (h.fz j), fun i hi => ?_, h.sp, h.k1, h.k6,
    cb, cap, g', ⟨(t _ h.lh).trans hT.h, (t _ lcb).trans hT.cb, (t _ hu.lp).trans hT.p, (t _ hu.ld).trans hT.d, (t _ hrl).trans hT.rp, ?_, fun i hi b hb => (t _ ((h.rings i hi).under.2.2 b hb)).trans (hT.s i hi b hb)⟩, o _ _ _ h0 hc, fun i hi => ⟨o _ _ _ (by rw [hT.cb]; omega) (hcs i hi).1, o _ _ _ (by rw [hT.cb]; omega) (hcs i hi).2⟩, hR⟩,
    hq.os, hq.tape, hq.output, hq.size, fun b hl hb => ⟨(t b hl).trans hb, hk b hl (by omega)⟩⟩
  · obtain ⟨e1, e2, e3⟩ := h.sp i hi
    exact (h.rings i hi).anew hq.size (fun b hb => hk b ((h.rings i hi).under.2.2 b hb) (by rw [hT.s i hi b hb]; omega)) ⟨u, by rw [e1, e2, e3]; exact hA⟩ (fun _ _ => rfl)
  · rcases hg with rfl | hg
    · exact (t _ hgl).trans hT.g
    · exact if_neg (by omega)

theorem TakenOf.before {x : HSpot} {T : Nat → Nat} {D : Nat → Int} {R : Nat → Rows} {top par : Int} {L : List (Int × Int)} {i : Nat} {w W : World} {e : Ending} {w' : World} (h : TakenOf x T D R top par L i W e w') (hb : HTurn T T w W) : TakenOf x T D R top par L i w e w' := by
  cases h with
  | white c l hw he h ht => exact .white c l hw he h (hb.trans ht)
  | fresh D' hw hr he h hD ht => exact .fresh D' hw hr he h hD (hb.trans ht)
  | full hw hr he h ht => exact .full hw hr he h (hb.trans ht)

/-- What take does. -/
inductive Taken (x : HSpot) (T : Nat → Nat) (D : Nat → Int) (R : Nat → Rows) (top par : Int) (L : List (Int × Int)) (size : Int) (w : World) (e : Ending) (w' : World) : Prop
  | small (i : Nat) (hC : Cls x.sz x.k size i) (hi : i < x.k) (h : TakenOf x T D R top par L i w e w')
  | big (hC : Cls x.sz x.k size x.k) (he : Ex.tErr (size + 3) L = 0) (T' : Nat → Nat) (D' : Nat → Int) (M : List (Int × Int)) (hr : e = .returned (.tuple #[.int .i64 (Ex.tAt (size + 3) L), .int .i64 0]))
      (h : HLies x T' D' (put1 R x.k ((R x.k).grow (Ex.tAt (size + 3) L)).alloc) top par M w') (hD : SameBut ((R x.k).grow (Ex.tAt (size + 3) L)) D D') (hM : Ex.Took x.lim (x.lim + (x.n - x.lim : Int)) (size + 3) L M) (ht : HTurn T T' w w')
  | none (hC : Cls x.sz x.k size x.k) (he : Ex.tErr (size + 3) L ≠ 0) (T' : Nat → Nat) (hr : e = .returned (.tuple #[.int .i64 (Ex.tAt (size + 3) L), .int .i64 (Ex.tErr (size + 3) L)])) (h : HLies x T' D R top par L w') (ht : HTurn T T' w w')

end Go.Proofs.Ytbjlpmjalidfkaa
