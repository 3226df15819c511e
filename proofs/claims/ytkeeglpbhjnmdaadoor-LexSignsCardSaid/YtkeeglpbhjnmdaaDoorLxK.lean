/- A token is the same as itself. -/
import Derived.Test.YtkeeglpbhjnmdaaDoorLxJ
namespace Go.Proofs.YtkeeglpbhjnmdaaDoor
open Go.RowKit Go.Lib

theorem num_refl (d : Nat) (f : Bool) (x : Int) (w : World) : (Op.equalIn (d + 2) 33 (.agg #[.bool f, .int .u64 x]) (.agg #[.bool f, .int .u64 x])).run Tryd.prog w = .ok true w := by
  have hf : Tryd.prog.underlying 33 = some (.struct (Tryd.prog.fieldsOf 33)) := by kernel_rfl
  have q1 : ∀ (w : World), (Op.equalIn (d + 1) 4 (.bool f) (.bool f)).run Tryd.prog w = .ok true w := fun w => by simp [Op.equalIn, run_underlying Tryd.underlying4, go_sem]
  have q2 : ∀ (w : World), (Op.equalIn (d + 1) 31 (.int .u64 x) (.int .u64 x)).run Tryd.prog w = .ok true w := fun w => by rw [run_equalIn_int w d 31 .u64 .u64 x x Tryd.underlying31]; simp
  rw [run_equalIn_struct w (d + 1) 33 _ _ hf (by kernel_rfl)]
  generalize hE : Op.equalIn (d + 1) 4 = E at *
  generalize hF : Op.equalIn (d + 1) 31 = F at *
  have p0 : ∀ (w : World), (part 4 #[.bool f, .int .u64 x] 0).run Tryd.prog w = .ok (.bool f) w := by intro w; simp [part, Tryd.isAgg4, go_sem]
  have p1 : ∀ (w : World), (part 31 #[.bool f, .int .u64 x] 1).run Tryd.prog w = .ok (.int .u64 x) w := by intro w; simp [part, Tryd.isAgg31, go_sem]
  have hl : (Tryd.prog.fieldsOf 33).toList = [⟨"Float", 4, 0, false, "", "", 0⟩, ⟨"Bits", 31, 1, false, "", "", 8⟩] := by kernel_rfl
  rw [hl]
  simp [Op.eqFields, hE, hF, p0, p1, q1, q2]

def tokV (k : Int) (b : ByteArray) (f : Bool) (x line : Int) : Array Value := #[.int .i64 k, .string b, .bool f, .int .u64 x, .int .i64 line]
theorem tok_refl' (d : Nat) (k : Int) (b : ByteArray) (f : Bool) (x line : Int) (w : World) : (Op.equalIn (d + 4) 35 (.agg (tokV k b f x line)) (.agg (tokV k b f x line))).run Tryd.prog w = .ok true w := by
  have hf : Tryd.prog.underlying 35 = some (.struct (Tryd.prog.fieldsOf 35)) := by kernel_rfl
  have q1 : ∀ (y : Int) (w : World), (Op.equalIn (d + 3) 3 (.int .i64 y) (.int .i64 y)).run Tryd.prog w = .ok true w := fun y w => by rw [run_equalIn_int w (d + 2) 3 .i64 .i64 y y Tryd.underlying3]; simp
  have q2 : ∀ (w : World), (Op.equalIn (d + 3) 9 (.string b) (.string b)).run Tryd.prog w = .ok true w := fun w => by rw [run_equalIn_string w (d + 2) 9 b b Tryd.underlying9]; simp
  have q3 : ∀ (w : World), (Op.equalIn (d + 3) 33 (.agg #[.bool f, .int .u64 x]) (.agg #[.bool f, .int .u64 x])).run Tryd.prog w = .ok true w := fun w => num_refl (d + 1) f x w
  rw [run_equalIn_struct w (d + 3) 35 _ _ hf (by kernel_rfl)]
  generalize hE : Op.equalIn (d + 3) 3 = E at *
  generalize hF : Op.equalIn (d + 3) 9 = F at *
  generalize hG : Op.equalIn (d + 3) 33 = G at *
  have p0 : ∀ (w : World), (part 3 (tokV k b f x line) 0).run Tryd.prog w = .ok (.int .i64 k) w := by intro w; simp [part, tokV, Tryd.isAgg3, go_sem]
  have p1 : ∀ (w : World), (part 9 (tokV k b f x line) 1).run Tryd.prog w = .ok (.string b) w := by intro w; simp [part, tokV, Tryd.isAgg9, go_sem]
  have p2 : ∀ (w : World), (part 33 (tokV k b f x line) 2).run Tryd.prog w = .ok (.agg #[.bool f, .int .u64 x]) w := by intro w; simp [part, tokV, Tryd.isAgg33, Tryd.sizeOf33, go_sem]
  have p4 : ∀ (w : World), (part 3 (tokV k b f x line) 4).run Tryd.prog w = .ok (.int .i64 line) w := by intro w; simp [part, tokV, Tryd.isAgg3, go_sem]
  have hl : (Tryd.prog.fieldsOf 35).toList = [⟨"Kind", 3, 0, false, "", "", 0⟩, ⟨"Text", 9, 1, false, "", "", 8⟩, ⟨"Num", 33, 2, false, "", "", 24⟩, ⟨"Line", 3, 4, false, "", "", 40⟩] := by kernel_rfl
  rw [hl]
  simp [Op.eqFields, hE, hF, hG, p0, p1, p2, p4, q1, q2, q3]
theorem tok_refl (k : Int) (b : ByteArray) (f : Bool) (x line : Int) (w : World) : (Op.equalIn 10000 35 (.agg #[.int .i64 k, .string b, .bool f, .int .u64 x, .int .i64 line]) (.agg #[.int .i64 k, .string b, .bool f, .int .u64 x, .int .i64 line])).run Tryd.prog w = .ok true w := tok_refl' 9996 k b f x line w

/-- All lines further on. -/
def Res.shift (n : Int) : Res → Res
  | .good T => .good (T.map fun x => (x.1, x.2 + n))
  | .bad e l => .bad e (l + n)
theorem lexA_shift (n : Int) : ∀ (f : Nat) (l : List UInt8) (line : Int) (acc : List (Tk × Int)), lexA f l (line + n) (acc.map fun x => (x.1, x.2 + n)) = (lexA f l line acc).shift n
  | 0, l, line, acc => by unfold lexA; rfl
  | f + 1, [], line, acc => by unfold lexA; rfl
  | f + 1, c :: r, line, acc => by
    unfold lexA
    split
    · rw [show line + n + 1 = line + 1 + n by omega]
      exact lexA_shift n f _ _ _
    · split
      · exact lexA_shift n f _ _ _
      · split
        · split
          · rfl
          · exact lexA_shift n f _ _ _
        · split
          · rw [List.length_map]
            split
            · rfl
            · rw [show List.map (fun x => (x.1, x.2 + n)) acc ++ [((readL (c :: r)).1, line + n)] = (acc ++ [((readL (c :: r)).1, line)]).map (fun x => (x.1, x.2 + n)) by simp]
              exact lexA_shift n f _ _ _
          · rfl
theorem lexL_nl (l : List UInt8) : ∀ n : Nat, lexL (List.replicate n 10 ++ l) = (lexL l).shift n
  | 0 => by
    show lexL l = (lexL l).shift 0
    cases lexL l with
    | good T => simp [Res.shift]
    | bad e l => simp [Res.shift]
  | n + 1 => by
    have ih := lexL_nl l n
    rw [List.replicate_succ, List.cons_append]
    show lexA ((List.replicate n 10 ++ l).length + 1 + 1) (10 :: (List.replicate n 10 ++ l)) 1 [] = _
    have e0 : lexA ((List.replicate n 10 ++ l).length + 1 + 1) (10 :: (List.replicate n 10 ++ l)) 1 [] = lexA ((List.replicate n 10 ++ l).length + 1) (List.replicate n 10 ++ l) (1 + 1) [] := by
      generalize List.replicate n 10 ++ l = m
      conv => lhs; unfold lexA
      simp
    refine e0.trans ?_
    have h := lexA_shift 1 ((List.replicate n 10 ++ l).length + 1) (List.replicate n 10 ++ l) 1 []
    simp only [List.map_nil] at h
    rw [h]
    show (lexL (List.replicate n 10 ++ l)).shift 1 = _
    rw [ih]
    cases lexL l with
    | good T =>
      simp only [Res.shift, List.map_map]
      congr 1
      refine List.map_congr_left fun x _ => ?_
      simp
      omega
    | bad e l =>
      simp only [Res.shift]
      congr 1
      omega

end Go.Proofs.YtkeeglpbhjnmdaaDoor
