/- assoc: the reference's New: a row is appended to the table's, in any order of what is read. -/
import Derived.Test.YtnjdmkgkpdebdaaOM
namespace Go.Proofs.Ytnjdmkgkpdebdaa
open Go Go.RowKit Go.Sort
set_option linter.unusedVariables false
def inLoop' : Code → Option Code
  | .loop b => some b
  | .seq a b => match inLoop' a with
    | some c => some c
    | none => inLoop' b
  | .block _ b => inLoop' b
  | _ => none
def lastReg : Code → Code
  | .seq _ b => lastReg b
  | c => c
def inRound' : Code → Code
  | .seq _ (.seq _ (.seq (.block _ x) _)) => x
  | c => c
def apOps (f : Go.Func) : Array Oper := regOps (lastReg (inRound' ((inLoop' (f.body.getD .skip)).getD .skip)))
def apO (f : Go.Func) (i : Nat) : Oper := (apOps f).getD i zOp
theorem ap_size : (apOps Try.f9).size = 15 := by kernel_rfl
theorem ap_at (i : Nat) (hi : i < 15) : (apOps Try.f9)[i]? = some (apO Try.f9 i) := by
  have h : i < (apOps Try.f9).size := by rw [ap_size]; exact hi
  rw [Array.getElem?_eq_getElem h]
  unfold apO Array.getD
  simp [h]
theorem ap_fw : ((List.range 15).all fun i => (apO Try.f9 i).after.all fun e => !Region.binds .any e || Nat.ble (e.on + 1) i) = true := by kernel_rfl
theorem ap_gd : ((List.range 15).all fun i => (apO Try.f9 i).guard.isNone) = true := by kernel_rfl
def apW (f : Go.Func) (i k : Nat) : Bool := (apO f i).after.any fun e => Region.binds .any e && e.on == k
theorem apW_spec {i k : Nat} (h : apW Try.f9 i k = true) {listed : Array Bool} (hall : ∀ e ∈ (apO Try.f9 i).after, Region.binds .any e = true → listed.getD e.on false = true) : listed.getD k false = true := by
  obtain ⟨e, he, hb, hon⟩ := any_after h
  rw [← hon]
  exact hall e he hb
theorem ap_ops : (apO Try.f9 0).op = .move (.tmp 4) ∧ (apO Try.f9 1).op = .move (.tmp 4) ∧ (apO Try.f9 2).op = .nilCheck (.tmp 39) ∧ (apO Try.f9 3).op = .fieldAddr 80 (.tmp 40) 0 ∧ (apO Try.f9 4).op = .load 78 (.tmp 41) ∧ (apO Try.f9 5).op = .move (.tmp 5) ∧ (apO Try.f9 6).op = .binOp .add 3 (.tmp 43) (.const (.int .i64 1)) 3 ∧ (apO Try.f9 7).op = .load 41 (.tmp 6) ∧ (apO Try.f9 8).op = .build 81 #[(0, .tmp 44), (1, .tmp 45)] ∧ (apO Try.f9 9).op = .build 83 #[(0, .tmp 46)] ∧ (apO Try.f9 10).op = .buildSlice 78 1 #[(0, .tmp 47)] ∧ (apO Try.f9 11).op = .call { callee := .builtin .append, args := #[.tmp 42, .tmp 48], argTypes := #[78, 78] } ∧ (apO Try.f9 12).op = .nilCheck (.tmp 38) ∧ (apO Try.f9 13).op = .fieldAddr 80 (.tmp 50) 0 ∧ (apO Try.f9 14).op = .store 78 (.tmp 51) (.tmp 49) := by
  refine ⟨?_, ?_, ?_, ?_, ?_, ?_, ?_, ?_, ?_, ?_, ?_, ?_, ?_, ?_, ?_⟩ <;> kernel_rfl
theorem ap_dst : (List.range 15).map (fun i => (apO Try.f9 i).dst) = [some 38, some 39, some 40, some 41, some 42, some 43, some 44, some 45, some 46, some 47, some 48, some 49, some 50, some 51, none] := by kernel_rfl
theorem run_buildE2 (id : Int) (a : As) (w : World) : (Instr.build 81 #[(0, .int .i64 id), (1, .agg (asL a).toArray)]).run Try.prog w = .ok (.agg (enL ⟨0, id, a, 0, 0, 0⟩).toArray) w := by
  kernel_rfl
end Go.Proofs.Ytnjdmkgkpdebdaa
