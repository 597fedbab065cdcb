/- What bytes and sameControl of the laws' package return where both are the same. -/
import Derived.Test.YtdobghhjlfffpaaWD
import Derived.Laws.BytesArg
namespace Go.Proofs.Ytdobghhjlfffpaa
open Go.RowKit
theorem conv8 {N : Nat} {v : Value} {bs : List Int} (w : World) (h : Sv N w v bs) : (convert 27 9 v).run Try.prog w = .ok (.string (strOfNums bs)) w := by
  obtain ⟨ao, cap, rfl, h1, h2, h3, h4⟩ := h
  have u9 : Try.prog.underlying 9 = some .string := Try.underlying9
  have u5 : Try.prog.underlying 5 = some (.int .u8) := Try.underlying5
  cases ao with
  | none =>
    have hc := h2 rfl
    have hl0 : bs = [] := List.length_eq_zero_iff.1 (by omega)
    subst hl0
    rw [run_convert_bytes_nil w 27 5 Try.underlying27 u5 _ _ 9 u9]
    rfl
  | some ad =>
    have hl : (loadCells ad bs.length).run Try.prog w = .ok (bs.map (Value.int .u8)).toArray w := by
      have := run_loadCells_list (P := Try.prog) w ad (bs.map (Value.int .u8)) (fun j v hj => h3.news j v hj)
      simpa using this
    rw [run_convert_bytes_string w 27 9 5 _ bs.length cap Try.underlying27 u5 u9, run_bytesToString w _ bs.length cap bs hl, foldl_push_bytes]
    simp [strOfNums, ByteArray.empty, ByteArray.emptyWithCapacity]
    rfl
set_option maxHeartbeats 1000000 in
theorem lbytes_eq (N M : Nat) (v1 v2 : Value) (bs : List Int) (w : World) (h1 : Sv N w v1 bs) (h2 : Sv M w v2 bs) :
    Calls Try.prog 13 #[v1, v2] w fun e w' => e = .returned (.bool true) ∧ w' = w := by
  have e1 := conv8 w h1
  have e2 := conv8 w h2
  obtain ⟨S, hS⟩ : ∃ S, S = strOfNums bs := ⟨_, rfl⟩
  rw [← hS] at e1 e2
  clear h1 h2 hS
  go_enter Try.func13, Try.ntmps13
  go_wp2
  go_ret
  exact ⟨rfl, rfl⟩
end Go.Proofs.Ytdobghhjlfffpaa
