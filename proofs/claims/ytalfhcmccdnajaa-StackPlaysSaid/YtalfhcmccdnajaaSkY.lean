/- The document's lists: a copy with one more. -/
import Derived.Test.YtalfhcmccdnajaaSkW
namespace Go.Proofs.Ytalfhcmccdnajaa
open Go.RowKit Go.Sort

theorem Try.info_boolz : (Try.prog.info? 4).map (fun i => (i.zero, i.size, i.bytes)) = some (some (.bool false), 1, 1) := by kernel_rfl
abbrev TB : TypeId := 4
abbrev TBL : TypeId := 31

section
set_option maxHeartbeats 4000000
/-- append of all of a list of frames onto an empty one. -/
theorem run_all (ty : TypeId) (w : World) (b : Nat) (hb : w.heap[b]? = some (.cells #[] TF (0, 0))) (x : Value) (B : List Fr) (hB : FsAt w x B) (hn : B.length ≤ 100000) :
    ∃ v' w', (Builtin.append_ #[TL, TL] ty #[.slice (some ⟨b, 0, none⟩) 0 0, x]).run Try.prog w = .ok v' w' ∧ FsAt w' v' B ∧ w.grownBy w' (some b) ∧ (v'.ownBlock = some b ∨ v'.ownBlock = some w.heap.size) := by
  obtain ⟨i0, hi, hz0, hz1, hz2⟩ := info_parts Try.info_frame
  have ht : Try.prog.underlying TL = some (.slice TF) := Try.underlying30
  have hown : w.ownsRow 0 TF 3 (.slice (some ⟨b, 0, none⟩) 0 0) 0 [] := ⟨rfl, Or.inr ⟨b, 0, #[], rfl, Nat.zero_le _, hb, Nat.le_refl _, Nat.zero_le _, rfl, rfl⟩⟩
  rcases id hB with ⟨rfl, rfl⟩ | ⟨g, cap, cur, rfl, hg, h1, h2, h3, h4⟩
  · refine ⟨_, w, ?_, Or.inr ⟨b, 0, #[], rfl, hb, Nat.le_refl _, Nat.zero_le _, Nat.zero_le _, rfl⟩, ⟨rfl, rfl, rfl, Nat.le_refl _, fun _ _ _ => rfl⟩, Or.inl rfl⟩
    simp [Builtin.append_, run_underlying ht, sizeOf, typeInfo, hi, Builtin.lenOf, Builtin.firstCells, storeCells]
  · have hnews : ∀ j u, (flatF B)[j]? = some u → w.cell? ((⟨g, 0, none⟩ : Addr).add j) = some u := fun j u hu => by
      have hj := (List.getElem?_eq_some_iff.1 hu).1
      rw [flatF_length] at hj
      rw [addr_at, Nat.zero_add, cell_of_row w g j cur TF (0, 0) hg]
      rw [← h4, List.getElem?_take, if_pos hj] at hu
      simpa using hu
    obtain ⟨v', w', hr, q2, q3, _, q5⟩ := run_append_own_at (P := Try.prog) w 0 TL ty TF i0 _ 3 40 ht hi hz0 hz1 hz2 rfl (by decide) (.slice (some ⟨b, 0, none⟩) 0 0) 0 [] hown ⟨g, 0, none⟩ B.length cap (flatF B) (flatF_length B) hnews (flatF_one B) (by unfold maxLen; omega) (by omega) (Nat.zero_le _)
    refine ⟨v', w', hr, ?_, q3, q5⟩
    rcases q2.2 with ⟨rfl, h⟩ | ⟨g, cap, cur, rfl, _, e1, e2, e3, e4, e5⟩
    · exact Or.inl ⟨rfl, List.length_eq_zero_iff.1 (by omega)⟩
    · exact Or.inr ⟨g, cap, cur, by rw [Nat.zero_add], e1, by omega, e3, by omega, by simpa using e5⟩
/-- append of all of a list of signs onto an empty one. -/
theorem run_allb (ty : TypeId) (w : World) (b : Nat) (hb : w.heap[b]? = some (.cells #[] TB (0, 0))) (x : Value) (B : List Bool) (hB : BsAt w x B) (hn : B.length ≤ 100000) :
    ∃ v' w', (Builtin.append_ #[TBL, TBL] ty #[.slice (some ⟨b, 0, none⟩) 0 0, x]).run Try.prog w = .ok v' w' ∧ BsAt w' v' B ∧ w.grownBy w' (some b) ∧ (v'.ownBlock = some b ∨ v'.ownBlock = some w.heap.size) := by
  obtain ⟨i0, hi, hz0, hz1, hz2⟩ := info_parts Try.info_boolz
  have ht : Try.prog.underlying TBL = some (.slice TB) := Try.underlying31
  have hown : w.ownsRow 0 TB 1 (.slice (some ⟨b, 0, none⟩) 0 0) 0 [] := ⟨rfl, Or.inr ⟨b, 0, #[], rfl, Nat.zero_le _, hb, Nat.le_refl _, Nat.zero_le _, rfl, rfl⟩⟩
  rcases id hB with ⟨rfl, rfl⟩ | ⟨g, cap, cur, rfl, hg, h1, h2, h3, h4⟩
  · refine ⟨_, w, ?_, Or.inr ⟨b, 0, #[], rfl, hb, Nat.le_refl _, Nat.zero_le _, rfl, rfl⟩, ⟨rfl, rfl, rfl, Nat.le_refl _, fun _ _ _ => rfl⟩, Or.inl rfl⟩
    simp [Builtin.append_, run_underlying ht, sizeOf, typeInfo, hi, Builtin.lenOf, Builtin.firstCells, storeCells]
  · have hnews : ∀ j u, (B.map Value.bool)[j]? = some u → w.cell? ((⟨g, 0, none⟩ : Addr).add j) = some u := fun j u hu => by
      have hj := (List.getElem?_eq_some_iff.1 hu).1
      rw [List.length_map] at hj
      rw [addr_at, Nat.zero_add, cell_of_row w g j cur TB (0, 0) hg]
      rw [← h4, List.getElem?_take, if_pos hj] at hu
      simpa using hu
    obtain ⟨v', w', hr, q2, q3, _, q5⟩ := run_append_own_at (P := Try.prog) w 0 TBL ty TB i0 _ 1 1 ht hi hz0 hz1 hz2 rfl (by decide) (.slice (some ⟨b, 0, none⟩) 0 0) 0 [] hown ⟨g, 0, none⟩ B.length cap (B.map Value.bool) (by simp) hnews (fun u hu => by obtain ⟨y, _, rfl⟩ := List.mem_map.1 hu; rfl) (by unfold maxLen; omega) (by omega) (Nat.zero_le _)
    refine ⟨v', w', hr, ?_, q3, q5⟩
    rcases q2.2 with ⟨rfl, h⟩ | ⟨g, cap, cur, rfl, _, e1, e2, e3, e4, e5⟩
    · exact Or.inl ⟨rfl, List.length_eq_zero_iff.1 (by omega)⟩
    · exact Or.inr ⟨g, cap, cur, by rw [Nat.zero_add], e1, by omega, e3, by omega, by simpa using e5⟩
/-- A sign more. -/
theorem run_pushb (ty : TypeId) (w : World) (v : Value) (B : List Bool) (hB : BsAt w v B) (hn : B.length ≤ 100000) (a : Addr) (c : Nat) (x : Bool) (hx : w.cell? (a.add 0) = some (.bool x)) :
    ∃ v' w', (Builtin.append_ #[TBL, TBL] ty #[v, .slice (some a) 1 c]).run Try.prog w = .ok v' w' ∧ BsAt w' v' (B ++ [x]) ∧ w.grownBy w' v.ownBlock ∧ (v'.ownBlock = v.ownBlock ∨ v'.ownBlock = some w.heap.size) := by
  obtain ⟨i0, hi, hz0, hz1, hz2⟩ := info_parts Try.info_boolz
  have ht : Try.prog.underlying TBL = some (.slice TB) := Try.underlying31
  have hown : w.ownsRow 0 TB 1 v B.length (B.map Value.bool) := by
    rcases hB with ⟨rfl, rfl⟩ | ⟨g, cap, cur, rfl, hg, h1, h2, h3, h4⟩
    · exact World.ownsRow_nil _ _ _ _
    · exact ⟨by simp, Or.inr ⟨g, cap, cur, rfl, Nat.zero_le _, hg, h1, h2, by omega, by simpa using h4⟩⟩
  obtain ⟨v', w', hr, q2, q3, _, q5⟩ := run_append_own_at (P := Try.prog) w 0 TBL ty TB i0 _ 1 1 ht hi hz0 hz1 hz2 rfl (by decide) v B.length (B.map Value.bool) hown a 1 c [Value.bool x] rfl (fun j u hu => by
    match j, hu with
    | 0, hu => simp at hu; subst hu; exact hx) (by intro u hu; simp at hu; subst hu; rfl) (by unfold maxLen; omega) (by omega) (Nat.zero_le _)
  refine ⟨v', w', hr, ?_, q3, q5⟩
  rcases q2.2 with ⟨rfl, h⟩ | ⟨g, cap, cur, rfl, _, e1, e2, e3, e4, e5⟩
  · omega
  · exact Or.inr ⟨g, cap, cur, by simp, e1, by simpa using e2, e3, by omega, by simpa using e5⟩
end
theorem list_run {ops : Array Oper} {rest : List Oper} {o : Oper} {a : Act} {Q : Exit → Act → World → Prop} {t : TypeId} (hgd : o.guard = none) (s x : Operand) (ho : o.op = .call { callee := .builtin .append, args := #[s, x], argTypes := #[t, t] })
    (w w' : World) (v xv v' : Value) (hs : a.eval s = v) (hx : a.eval x = xv) (hr : (Builtin.append_ #[t, t] o.type #[v, xv]).run Try.prog w = .ok v' w') (h : wpList Try.prog ops Q rest (a.put o.dst v') w') : wpList Try.prog ops Q (o :: rest) a w := by
  refine wpList_plain hgd fun _ hK => ?_
  unfold Oper.wp execOp
  simp only [ho, resolve, invoke, builtin, Sem.run_bind, Sem.run_pure, Result.andThen_ok, List.map_toArray, List.map_cons, List.map_nil, hs, hx, hr]
  exact hK _ _ h
theorem step_run {ops : Array Oper} {o : Oper} {a : Act} {K : Act → World → Prop} {Q : Exit → Act → World → Prop} {E : Prop} {t : TypeId} (hgd : o.guard = none) (s x : Operand) (ho : o.op = .call { callee := .builtin .append, args := #[s, x], argTypes := #[t, t] })
    (w w' : World) (v xv v' : Value) (hs : a.eval s = v) (hx : a.eval x = xv) (hr : (Builtin.append_ #[t, t] o.type #[v, xv]).run Try.prog w = .ok v' w') (h : K (a.put o.dst v') w') :
    if Region.wanted o (yielded ops a.tmps) = true then Oper.wp Try.prog o a w K Q else E := by
  have hw : Region.wanted o (yielded ops a.tmps) = true := by simp [Region.wanted, hgd]
  rw [if_pos hw]
  unfold Oper.wp execOp
  simp only [ho, resolve, invoke, builtin, Sem.run_bind, Sem.run_pure, Result.andThen_ok, List.map_toArray, List.map_cons, List.map_nil, hs, hx, hr]
  exact h

end Go.Proofs.Ytalfhcmccdnajaa
