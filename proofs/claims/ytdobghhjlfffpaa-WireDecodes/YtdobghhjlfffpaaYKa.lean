/- The reference's Decode: a field is appended, in any order of what is read and called. -/
import Derived.Test.YtdobghhjlfffpaaYI
import Derived.Test.YtdobghhjlfffpaaGX
namespace Go.Proofs.Ytdobghhjlfffpaa
open Go Go.RowKit Go.Sort
set_option linter.unusedVariables false
def inLoop3 : Code → Option Code
  | .loop b => some b
  | .seq a b => match inLoop3 a with
    | some c => some c
    | none => inLoop3 b
  | .block _ b => inLoop3 b
  | _ => none
def inBody3 : Code → Code
  | .seq _ (.block _ x) => x
  | c => c
def seqAt3 : Nat → Code → Code
  | 0, .seq a _ => a
  | n + 1, .seq _ b => seqAt3 n b
  | _, c => c
def regOps3 : Code → Array Oper
  | .region _ ops _ => ops
  | _ => #[]
def zOp3 : Oper := { dst := none, op := .move (.const (.bool true)), type := 0, pos := "", after := #[], guard := none }
def xOps (f : Go.Func) : Array Oper := regOps3 (seqAt3 3 (inBody3 ((inLoop3 (f.body.getD .skip)).getD .skip)))
def xO (f : Go.Func) (i : Nat) : Oper := (xOps f).getD i zOp3
theorem x_size : (xOps Try.f18).size = 15 := by kernel_rfl
theorem x_at (i : Nat) (hi : i < 15) : (xOps Try.f18)[i]? = some (xO Try.f18 i) := by
  have h : i < (xOps Try.f18).size := by rw [x_size]; exact hi
  rw [Array.getElem?_eq_getElem h]
  unfold xO Array.getD
  simp [h]
theorem x_fw : ((List.range 15).all fun i => (xO Try.f18 i).after.all fun e => !Region.binds .any e || Nat.ble (e.on + 1) i) = true := by kernel_rfl
theorem x_gd : ((List.range 15).all fun i => (xO Try.f18 i).guard.isNone) = true := by kernel_rfl
def xW (f : Go.Func) (i k : Nat) : Bool := (xO f i).after.any fun e => Region.binds .any e && e.on == k
theorem xW_spec {i k : Nat} (h : xW Try.f18 i k = true) {listed : Array Bool} (hall : ∀ e ∈ (xO Try.f18 i).after, Region.binds .any e = true → listed.getD e.on false = true) : listed.getD k false = true := by
  obtain ⟨e, he, hb, hon⟩ := any_after h
  rw [← hon]
  exact hall e he hb
theorem x_op0 : (xO Try.f18 0).op = .fieldAddr 29 (.tmp 5) 13 := by kernel_rfl
theorem x_op1 : (xO Try.f18 1).op = .load 26 (.tmp 120) := by kernel_rfl
theorem x_op2 : (xO Try.f18 2).op = .move (.tmp 0) := by kernel_rfl
theorem x_op3 : (xO Try.f18 3).op = .slice 27 (.tmp 122) none (some (.const (.int .i64 2))) none := by kernel_rfl
theorem x_op4 : (xO Try.f18 4).op = .call { callee := .value (.func 43), args := #[.tmp 123], argTypes := #[27] } := by kernel_rfl
theorem x_op5 : (xO Try.f18 5).op = .convert 24 3 (.tmp 124) := by kernel_rfl
theorem x_op6 : (xO Try.f18 6).op = .move (.tmp 0) := by kernel_rfl
theorem x_op7 : (xO Try.f18 7).op = .move (.tmp 6) := by kernel_rfl
theorem x_op8 : (xO Try.f18 8).op = .slice 27 (.tmp 126) (some (.const (.int .i64 4))) (some (.tmp 127)) none := by kernel_rfl
theorem x_op9 : (xO Try.f18 9).op = .call { callee := .value (.func 44), args := #[.tmp 128], argTypes := #[27] } := by kernel_rfl
theorem x_op10 : (xO Try.f18 10).op = .build 49 #[(0, .tmp 125), (1, .tmp 129)] := by kernel_rfl
theorem x_op11 : (xO Try.f18 11).op = .buildSlice 26 1 #[(0, .tmp 130)] := by kernel_rfl
theorem x_op12 : (xO Try.f18 12).op = .call { callee := .builtin .append, args := #[.tmp 121, .tmp 131], argTypes := #[26, 26] } := by kernel_rfl
theorem x_op13 : (xO Try.f18 13).op = .fieldAddr 29 (.tmp 5) 13 := by kernel_rfl
theorem x_op14 : (xO Try.f18 14).op = .store 26 (.tmp 133) (.tmp 132) := by kernel_rfl
theorem x_dst : (List.range 15).map (fun i => (xO Try.f18 i).dst) = [some 120, some 121, some 122, some 123, some 124, some 125, some 126, some 127, some 128, some 129, some 130, some 131, some 132, some 133, none] := by kernel_rfl
end Go.Proofs.Ytdobghhjlfffpaa
