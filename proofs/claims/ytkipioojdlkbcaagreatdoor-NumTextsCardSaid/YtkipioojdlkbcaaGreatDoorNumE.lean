/- Contracts of Calc: what it returns for each operation, by the operation's own contract; and its refusals. -/
import Derived.Test.YtkipioojdlkbcaaGreatDoorNumD
import Derived.Laws.EntriesVeiled
namespace Go.Proofs.YtkipioojdlkbcaaGreatDoor
open Go.RowKit

theorem run_equalIn_func_nil {P : Program} (w : World) (d : Nat) (t : TypeId) {a b : Array TypeId} {c : Bool} (fn : Fn) (x y : Array Value) (h : P.underlying t = some (.func a b c)) :
    (Op.equalIn (d + 1) t (.func fn x y) .nilFunc).run P w = .ok false w := by
  simp [Op.equalIn, run_underlying h]
theorem run_equalIn_nilFunc {P : Program} (w : World) (d : Nat) (t : TypeId) {a b : Array TypeId} {c : Bool} (h : P.underlying t = some (.func a b c)) :
    (Op.equalIn (d + 1) t .nilFunc .nilFunc).run P w = .ok true w := by
  simp [Op.equalIn, run_underlying h]

theorem run_eql_func_nil {P : Program} (w : World) (t : TypeId) {a b : Array TypeId} {c : Bool} (fn : Fn) (x y : Array Value) (h : P.underlying t = some (.func a b c)) :
    (binOp .eql t (.func fn x y) .nilFunc).run P w = .ok (.bool false) w := by
  have e : (Op.equal t (.func fn x y) .nilFunc).run P w = .ok false w := run_equalIn_func_nil w 9999 t fn x y h
  simp only [binOp]
  simp [e]

theorem run_eql_nilFunc {P : Program} (w : World) (t : TypeId) {a b : Array TypeId} {c : Bool} (h : P.underlying t = some (.func a b c)) :
    (binOp .eql t .nilFunc .nilFunc).run P w = .ok (.bool true) w := by
  have e : (Op.equal t .nilFunc .nilFunc).run P w = .ok true w := run_equalIn_nilFunc w 9999 t h
  simp only [binOp]
  simp [e]

theorem run_enter {P : Program} {f : FuncId} {fn : Func} {c : Code} (hf : P.funcs[f]? = some fn) (hname : (fn.name == "runtime.NumGoroutine") = false) (hb : fn.body = some c) (args : Array Value) (w : World) :
    (callFunc f args).run P w = .ok (.enter f args) w := by
  have h1 : fn.name ≠ "runtime.NumGoroutine" := by simpa using hname
  simp [callFunc, hf, h1, hb]

set_option maxHeartbeats 1000000 in
theorem calculations_any (w : World) :
    Calls Tryz.prog 22 #[] w fun e w' => e = .returned (.agg #[Value.func (Fn.func 37) #[] #[], Value.func (Fn.func 38) #[] #[], Value.func (Fn.func 39) #[] #[], Value.func (Fn.func 40) #[] #[], Value.func (Fn.func 42) #[] #[], Value.nilFunc, Value.nilFunc, Value.func (Fn.func 43) #[] #[], Value.func (Fn.func 46) #[] #[], Value.func (Fn.func 47) #[] #[], Value.func (Fn.func 48) #[] #[], Value.nilFunc, Value.nilFunc, Value.func (Fn.func 49) #[] #[], Value.func (Fn.func 50) #[] #[]]) ∧ Below w.heap.size w w' := by
  go_enter Tryz.func22, Tryz.ntmps22
  go_wp2
  exact bodyPost_ret (v := .agg #[Value.func (Fn.func 37) #[] #[], Value.func (Fn.func 38) #[] #[], Value.func (Fn.func 39) #[] #[], Value.func (Fn.func 40) #[] #[], Value.func (Fn.func 42) #[] #[], Value.nilFunc, Value.nilFunc, Value.func (Fn.func 43) #[] #[], Value.func (Fn.func 46) #[] #[], Value.func (Fn.func 47) #[] #[], Value.func (Fn.func 48) #[] #[], Value.nilFunc, Value.nilFunc, Value.func (Fn.func 49) #[] #[], Value.func (Fn.func 50) #[] #[]]) (by simp [results, Tryz.results22, go_sem]) rfl ⟨rfl, (Below.refl _ _).alloc (Nat.le_refl _) _⟩

/-- Is a number of that kind the one that an operation asks for? -/
def kf (op : Int) : Bool := decide (7 ≤ op) && op != 13
def kindB (a b : Bool) (op : Int) : Bool := (a == kf op) && (b == kf op)

set_option maxHeartbeats 1000000 in
theorem kind_any (op : Int) (a b : Bool) (x y : Int) (w : World) :
    Calls Tryz.prog 23 #[.int .i64 op, .agg #[.bool a, .int .u64 x], .agg #[.bool b, .int .u64 y]] w fun e w' =>
      e = .returned (.bool (kindB a b op)) ∧ Below w.heap.size w w' := by
  have hk : kf op = true ∨ kf op = false := by cases kf op <;> simp
  by_cases h7 : 7 ≤ op
  · by_cases h13 : op = 13
    · have hk : kf op = false := by subst h13; rfl
      have Hk : Hid (kindB a b op = ((a == false) && (b == false))) := by unfold kindB; rw [hk]; rfl
      clear hk
      have h13' : (op != 13) = false := by simp [h13]
      clear h13
      cases a <;> cases b
      all_goals
        go_enter Tryz.func23, Tryz.ntmps23
        go_wp2
        go_ret
        exact ⟨by rw [Hk.out]; rfl, ((Below.refl _ _).alloc (by simp) _).alloc (by simp) _⟩
    · have hk : kf op = true := by unfold kf; simp [h7, h13]
      have Hk : Hid (kindB a b op = ((a == true) && (b == true))) := by unfold kindB; rw [hk]; rfl
      clear hk
      have h13' : (op != 13) = true := by simp [h13]
      clear h13
      cases a <;> cases b
      all_goals
        go_enter Tryz.func23, Tryz.ntmps23
        go_wp2
        go_ret
        exact ⟨by rw [Hk.out]; rfl, ((Below.refl _ _).alloc (by simp) _).alloc (by simp) _⟩
  · have hk : kf op = false := by unfold kf; simp [h7]
    have Hk : Hid (kindB a b op = ((a == false) && (b == false))) := by unfold kindB; rw [hk]; rfl
    clear hk
    cases a <;> cases b
    all_goals
      go_enter Tryz.func23, Tryz.ntmps23
      go_wp2
      go_ret
      exact ⟨by rw [Hk.out]; rfl, ((Below.refl _ _).alloc (by simp) _).alloc (by simp) _⟩

/-- The state of a world behind three boxes and a table, whose cell i at block p holds v. -/
def S4 (w : World) (f g : Bool) (x y : Int) (p i : Nat) (v : Value) (w' : World) : Prop :=
  (Below w.heap.size w w' ∧ w.heap.size + 3 ≤ w'.heap.size ∧
      w'.cell? ⟨w.heap.size, 0, none⟩ = some (.bool f) ∧ w'.cell? ⟨w.heap.size, 1, none⟩ = some (.int .u64 x) ∧
      w'.cell? ⟨w.heap.size + 1, 0, none⟩ = some (.bool g) ∧ w'.cell? ⟨w.heap.size + 1, 1, none⟩ = some (.int .u64 y) ∧
      w'.cell? ⟨w.heap.size + 1 + 1, 0, none⟩ = some (cellv w' ⟨w.heap.size + 1 + 1, 0, none⟩) ∧ w'.cell? ⟨w.heap.size + 1 + 1, 1, none⟩ = some (cellv w' ⟨w.heap.size + 1 + 1, 1, none⟩) ∧
      w'.frozen? ⟨w.heap.size + 1 + 1, 0, none⟩ = false ∧ w'.frozen? ⟨w.heap.size + 1 + 1, 1, none⟩ = false) ∧ w'.cell? ⟨p, i, none⟩ = some v

theorem S4.of {w : World} {f g : Bool} {x y : Int} {p i : Nat} {v : Value} {W : World} (h : S3 w f g x y W) (hc : W.cell? ⟨p, i, none⟩ = some v) : S4 w f g x y p i v W := ⟨h, hc⟩
theorem S4.three {w : World} {f g : Bool} {x y : Int} {p i : Nat} {v : Value} {W : World} (h : S4 w f g x y p i v W) : S3 w f g x y W := h.1
theorem S4.drew {w : World} {f g : Bool} {x y : Int} {p i : Nat} {v : Value} {W : World} (h : S4 w f g x y p i v W) : S4 w f g x y p i v W.drew := ⟨S3.drew h.1, h.2⟩
theorem S4.below {w : World} {f g : Bool} {x y : Int} {p i : Nat} {v : Value} {W w' : World} (h : S4 w f g x y p i v W) (hb : Below W.heap.size W w') : S4 w f g x y p i v w' :=
  ⟨S3.below h.1 hb, (hb.cell (World.block_lt_of_cell? _ _ h.2)).trans h.2⟩
theorem S4.store {w : World} {f g : Bool} {x y : Int} {p i : Nat} {z : Value} {W : World} (hp : w.heap.size + 1 + 1 < p) (h : S4 w f g x y p i z W) (u v : Value) :
    S4 w f g x y p i z ((W.setCell ⟨w.heap.size + 1 + 1, 0, none⟩ u).setCell ⟨w.heap.size + 1 + 1, 1, none⟩ v) := by
  refine ⟨S3.store h.1 u v, ?_⟩
  have n : ∀ j, (⟨w.heap.size + 1 + 1, j, none⟩ : Addr) ≠ ⟨p, i, none⟩ := fun j e => by injection e; omega
  rw [World.cell?_setCell_other (h := n 1), World.cell?_setCell_other (h := n 0)]
  exact h.2

end Go.Proofs.YtkipioojdlkbcaaGreatDoor
