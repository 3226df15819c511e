import Derived.Test.YtdjcdecbmeickaaDoorMg21
namespace Go.Proofs.YtdjcdecbmeickaaDoor
set_option maxHeartbeats 64000000
set_option maxRecDepth 100000
open Go.RowKit Go.Lib
def oneX : Ex := .mk 3 [] false 0 [] [] [] []
def nmA (k : Nat) : Nm := [120, UInt8.ofNat (97 + k % 26), UInt8.ofNat (97 + k / 26)]
def nmsA (n : Nat) : List Nm := (List.range n).map nmA
def kidsA (n : Nat) : List Ex := .leaf 1 [102] :: List.replicate n oneX
def modF (n : Nat) : Md := ([], [([102], nmsA n, oneX), (mainL, [], oneX)])
def modL' (n : Nat) : Md := ([], [([102], [], .mk 8 [] false 0 (nmsA n) [oneX] [] []), (mainL, [], oneX)])
def modG (n : Nat) : Md := ([], [([102], [], oneX), (mainL, [], .mk 4 [] false 0 [] (kidsA n) [] [])])
theorem modF_ar : ∀ n : Fin 61, scM (modF n.val) = none ∧ arM (modF n.val) = if 24 < n.val then some (12, [102]) else none := by decide +kernel
theorem modL_ar' : ∀ n : Fin 61, 0 < n.val → scM (modL' n.val) = none ∧ arM (modL' n.val) = if 24 < n.val then some (12, [120, 97, 97]) else none := by decide +kernel
theorem modG_ar : ∀ n : Fin 61, scM (modG n.val) = none ∧ arM (modG n.val) = if 24 < n.val then some (12, []) else none := by decide +kernel
theorem modF_wt : ∀ n : Fin 61, 10 + (modF n.val).1.length + ((modF n.val).2.length + sumN nB (modF n.val).2) ≤ 100000 := by decide +kernel
theorem modL_wt' : ∀ n : Fin 61, 10 + (modL' n.val).1.length + ((modL' n.val).2.length + sumN nB (modL' n.val).2) ≤ 100000 := by decide +kernel
theorem modG_wt : ∀ n : Fin 61, 10 + (modG n.val).1.length + ((modG n.val).2.length + sumN nB (modG n.val).2) ≤ 100000 := by decide +kernel
theorem one_wf : wfE oneX := by unfold oneX wfE wfEs wfBs wfAs; exact ⟨fun _ => rfl, fun _ => rfl, fun q => by omega, fun _ h => (by cases h), trivial, trivial, trivial, fun _ => rfl, fun _ => rfl⟩
theorem nmsA_ok (n : Nat) : Nms (nmsA n) := fun x hx => by
  obtain ⟨k, -, rfl⟩ := List.mem_map.1 hx
  exact ⟨by unfold nmA; exact List.cons_ne_nil _ _, by unfold nmA; show 3 ≤ 100000; decide⟩
theorem main_ok : NmOk mainL := ⟨by decide, by decide⟩
theorem f_ok : NmOk [102] := ⟨by decide, by decide⟩
theorem main_one : wB (mainL, [], oneX) := ⟨main_ok, fun _ h => (by cases h), one_wf⟩
theorem leaf_wf {n : Nm} (h : NmOk n) (k : Int) : wfE (.leaf k n) := by
  show wfE (.mk k n false 0 [] [] [] [])
  unfold wfE wfEs wfBs wfAs
  exact ⟨fun _ => rfl, fun _ => rfl, fun _ => h, fun _ h => (by cases h), trivial, trivial, trivial, fun _ => rfl, fun _ => rfl⟩
theorem mk_wf {k : Int} {n : Nm} {f : Bool} {u : Int} {ps : List Nm} {ks : List Ex} (hk : k ≠ 1) (hn : k = 2 ∨ k = 5 → NmOk n) (hp : Nms ps) (hps : k ≠ 8 → ps = []) (hks : ∀ x, x ∈ ks → wfE x) : wfE (.mk k n f u ps ks [] []) := by
  unfold wfE wfBs wfAs
  exact ⟨fun q => absurd q hk, fun _ => rfl, fun q => by rcases q with q | q; exact absurd q hk; exact hn q, hp, wfEs_of hks, trivial, trivial, fun _ => rfl, hps⟩
theorem modF_ok (n : Fin 61) : MdOk (modF n.val) := ⟨fun _ h => (by cases h), fun b hb => by
  rcases List.mem_cons.1 hb with rfl | hb
  · exact ⟨f_ok, nmsA_ok _, one_wf⟩
  · rw [List.mem_singleton.1 hb]; exact main_one, modF_wt n⟩
theorem modL_ok' (n : Fin 61) : MdOk (modL' n.val) := ⟨fun _ h => (by cases h), fun b hb => by
  rcases List.mem_cons.1 hb with rfl | hb
  · exact ⟨f_ok, fun _ h => (by cases h), mk_wf (by decide) (fun q => by omega) (nmsA_ok _) (fun q => absurd rfl q) (fun x hx => by rw [List.mem_singleton.1 hx]; exact one_wf)⟩
  · rw [List.mem_singleton.1 hb]; exact main_one, modL_wt' n⟩
theorem modG_ok (n : Fin 61) : MdOk (modG n.val) := ⟨fun _ h => (by cases h), fun b hb => by
  rcases List.mem_cons.1 hb with rfl | hb
  · exact ⟨f_ok, fun _ h => (by cases h), one_wf⟩
  · rw [List.mem_singleton.1 hb]
    refine ⟨main_ok, fun _ h => (by cases h), mk_wf (by decide) (fun q => by omega) (fun _ h => (by cases h)) (fun _ => rfl) (fun x hx => ?_)⟩
    rcases List.mem_cons.1 hx with rfl | hx
    · exact leaf_wf f_ok 1
    · rw [(List.mem_replicate.1 hx).2]; exact one_wf, modG_wt n⟩
def nmC : Nm := [67]
def nmsC (m : Nat) : List Nm := (List.range m).map fun k => [UInt8.ofNat (97 + k)]
def modK (n k : Nat) : Md := ([(nmC, (n : Int))], [(mainL, [], .mk 2 nmC false 0 [] (List.replicate k oneX) [] [])])
def modH (n m : Nat) : Md := ([(nmC, (n : Int))], [(mainL, [], .mk 7 [] false 0 [] [oneX] [] [(0, nmC, false, 0, nmsC m, oneX)])])
theorem modK_ar : ∀ n k : Fin 6, scM (modK n.val k.val) = none ∧ arM (modK n.val k.val) = if n.val = k.val then none else some (11, nmC) := by decide +kernel
theorem modH_ar : ∀ n m : Fin 6, scM (modH n.val m.val) = none ∧ arM (modH n.val m.val) = if n.val = m.val then none else some (11, nmC) := by decide +kernel
theorem modK_wt : ∀ n k : Fin 6, 10 + (modK n.val k.val).1.length + ((modK n.val k.val).2.length + sumN nB (modK n.val k.val).2) ≤ 100000 := by decide +kernel
theorem modH_wt : ∀ n m : Fin 6, 10 + (modH n.val m.val).1.length + ((modH n.val m.val).2.length + sumN nB (modH n.val m.val).2) ≤ 100000 := by decide +kernel
theorem nmC_ok : NmOk nmC := ⟨by decide, by decide⟩
theorem nmsC_ok (n : Nat) : Nms (nmsC n) := fun x hx => by
  obtain ⟨k, -, rfl⟩ := List.mem_map.1 hx
  exact ⟨List.cons_ne_nil _ _, by show 1 ≤ 100000; decide⟩
theorem modK_ok (n k : Fin 6) : MdOk (modK n.val k.val) := ⟨fun d h => by rw [List.mem_singleton.1 h]; exact nmC_ok, fun b hb => by
  rw [List.mem_singleton.1 hb]
  exact ⟨main_ok, fun _ h => (by cases h), mk_wf (by decide) (fun _ => nmC_ok) (fun _ h => (by cases h)) (fun _ => rfl) (fun x hx => by rw [(List.mem_replicate.1 hx).2]; exact one_wf)⟩, modK_wt n k⟩
theorem modH_ok (n m : Fin 6) : MdOk (modH n.val m.val) := ⟨fun d h => by rw [List.mem_singleton.1 h]; exact nmC_ok, fun b hb => by
  rw [List.mem_singleton.1 hb]
  refine ⟨main_ok, fun _ h => (by cases h), ?_⟩
  show wfE (.mk 7 [] false 0 [] [oneX] [] [(0, nmC, false, 0, nmsC m.val, oneX)])
  unfold wfE wfBs wfEs wfAs wfEs wfAs
  exact ⟨fun q => by omega, fun q => absurd rfl q, fun q => by omega, fun _ h => (by cases h), ⟨one_wf, trivial⟩, trivial, ⟨⟨fun _ => nmC_ok, ⟨nmsC_ok _, fun q => absurd rfl q⟩, one_wf⟩, trivial⟩, fun _ => rfl, fun _ => rfl⟩, modH_wt n m⟩
theorem modK_fo (n k : Fin 6) : FoOk (scM (modK n.val k.val)) := by rw [(modK_ar n k).1]; exact fun _ _ h => by cases h
theorem modH_fo (n m : Fin 6) : FoOk (scM (modH n.val m.val)) := by rw [(modH_ar n m).1]; exact fun _ _ h => by cases h
theorem modC_ar (n : Fin 6) : ∀ d : Nm × Int, d ∈ [(nmC, ((n.val : Nat) : Int))] → Ar d := fun d h => by
  rw [List.mem_singleton.1 h]
  have := n.isLt
  exact ⟨by show (0 : Int) ≤ _; omega, by show ((n.val : Nat) : Int) ≤ 24; omega⟩
end Go.Proofs.YtdjcdecbmeickaaDoor
