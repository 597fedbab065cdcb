/- Auth: arrays in blocks; a word turned to the right. -/
import Derived.Test.YtocimfhagkcnlaaDoorJM
import Derived.Test.YtocimfhagkcnlaaDoorGQ
namespace Go.Proofs.YtocimfhagkcnlaaDoor
open Go Go.RowKit Go.Sort
set_option linter.unusedVariables false
/-- words, bytes as cells -/
def wd (xs : List Int) : List Value := xs.map (Value.int .u32)
def by' (xs : List Int) : List Value := xs.map (Value.int .u8)
theorem wd_len (xs : List Int) : (wd xs).length = xs.length := by unfold wd; simp
theorem by_len (xs : List Int) : (by' xs).length = xs.length := by unfold by'; simp
theorem wd_get (xs : List Int) (k : Nat) (hk : k < xs.length) : (wd xs).toArray[k]? = some (.int .u32 (xs.getD k 0)) := by
  unfold wd
  rw [List.getElem?_toArray, List.getElem?_map, List.getElem?_eq_getElem hk, List.getD_eq_getElem?_getD, List.getElem?_eq_getElem hk]
  rfl
theorem by_get (xs : List Int) (k : Nat) (hk : k < xs.length) : (by' xs).toArray[k]? = some (.int .u8 (xs.getD k 0)) := by
  unfold by'
  rw [List.getElem?_toArray, List.getElem?_map, List.getElem?_eq_getElem hk, List.getD_eq_getElem?_getD, List.getElem?_eq_getElem hk]
  rfl
theorem wd_set (xs : List Int) (k : Nat) (x : Int) : (wd xs).toArray.setIfInBounds k (.int .u32 x) = (wd (xs.set k x)).toArray := by
  unfold wd
  rw [List.setIfInBounds_toArray, List.map_set]
theorem by_set (xs : List Int) (k : Nat) (x : Int) : (by' xs).toArray.setIfInBounds k (.int .u8 x) = (by' (xs.set k x)).toArray := by
  unfold by'
  rw [List.setIfInBounds_toArray, List.map_set]
theorem wd_one (xs : List Int) : (wd xs).toArray.all (·.oneCell') = true := by
  unfold wd
  rw [List.all_toArray, List.all_eq_true]
  intro v hv
  obtain ⟨x, _, rfl⟩ := List.mem_map.1 hv
  rfl
theorem by_one (xs : List Int) : (by' xs).toArray.all (·.oneCell') = true := by
  unfold by'
  rw [List.all_toArray, List.all_eq_true]
  intro v hv
  obtain ⟨x, _, rfl⟩ := List.mem_map.1 hv
  rfl
/-- an index into an array in a block -/
theorem aidxW {T : TypeId} {n : Nat} (u : Tryd.prog.underlying T = some (.array n 47)) (p k : Nat) (hk : (k : Int) < n) (w : World) : Sem.run Tryd.prog (Instr.indexAt T (.pointer (some ⟨p, 0, none⟩)) (.int .i64 (k : Int))) w = .ok (.pointer (some ⟨p, k, none⟩)) w := by
  have h0 : (0 : Int) ≤ k := Int.natCast_nonneg k
  have c3 : Tryd.prog.cellsOf 47 = 1 := by kernel_rfl
  have e := add_own p k
  go_simp
theorem aidxB {T : TypeId} {n : Nat} (u : Tryd.prog.underlying T = some (.array n 5)) (p k : Nat) (hk : (k : Int) < n) (w : World) : Sem.run Tryd.prog (Instr.indexAt T (.pointer (some ⟨p, 0, none⟩)) (.int .i64 (k : Int))) w = .ok (.pointer (some ⟨p, k, none⟩)) w := by
  have h0 : (0 : Int) ≤ k := Int.natCast_nonneg k
  have c3 : Tryd.prog.cellsOf 5 = 1 := by kernel_rfl
  have e := add_own p k
  go_simp
/-- an array is loaded out of its block, and stored -/
theorem step_lda {ops : Array Oper} {rest : List Oper} {o : Oper} {a : Act} {w : World} {Q : Exit → Act → World → Prop} {T e : TypeId} {n : Nat} (hgd : o.guard = none) (x : Operand) (ho : o.op = .load T x)
    (u : Tryd.prog.underlying T = some (.array n e)) (g : Nat) (hx : a.eval x = .pointer (some ⟨g, 0, none⟩)) (cs : Array Value) (hB : Bk g w cs T) (hi : (Tryd.prog.info? T).map (·.size) = some cs.size)
    (h : wpList Tryd.prog ops Q rest (a.put o.dst (.agg cs)) w) : wpList Tryd.prog ops Q (o :: rest) a w :=
  wpList_load_row hgd T x ho g hx T cs _ _ hB u rfl hi h
/-- the result is an array in a block -/
theorem res_arr {fn : Func} {p : Tmp} {T e : TypeId} {n : Nat} (h : fn.results = #[.cell p T]) (u : Tryd.prog.underlying T = some (.array n e)) (tmps : Array Value) (w : World) (g : Nat) (cs : Array Value) (hp : tmps.getD p undef = .pointer (some ⟨g, 0, none⟩)) (hB : Bk g w cs T) (hi : (Tryd.prog.info? T).map (·.size) = some cs.size) : (results fn tmps).run Tryd.prog w = .ok (.agg cs) w :=
  results_cell_row h tmps w g _ cs (0, 0) _ hp hB u rfl hi
/-- a word turned to the right -/
def rr (x : Int) (n : Nat) : Int := bits .or .u32 (x * 2 ^ (32 - n) % 4294967296) (x / 2 ^ n)
theorem and31 (n : Nat) (h0 : 1 ≤ n) (h1 : n ≤ 31) : bits .and .u64 (IntKind.u64.wrap (-(n : Int))) 31 = 32 - n := by
  have h : ∀ m : Fin 32, 1 ≤ m.val → bits .and .u64 (IntKind.u64.wrap (-(m.val : Int))) 31 = 32 - m.val := by decide +kernel
  exact h ⟨n, by omega⟩ h0
set_option maxHeartbeats 1000000 in
theorem rotl_any (x : Int) (n : Nat) (N K : Int) (h0 : 1 ≤ n) (h1 : n ≤ 31) (hN : (n : Int) = N) (hK : K = -N) (w : World) : Calls Tryd.prog 75 #[.int .u32 x, .int .i64 K] w fun e w' => e = .returned (.int .u32 (rr x n)) ∧ w' = w := by
  obtain ⟨S, hS⟩ : ∃ S : Int, S = 32 - N := ⟨_, rfl⟩
  have e1 : bits .and .u64 (IntKind.u64.wrap K) 31 = S := by rw [hK, ← hN, and31 n h0 h1, hS, hN]
  have e2 : IntKind.u64.wrap (32 - S) = N := by rw [IntKind.wrap_u64]; omega
  have s0 : 0 ≤ S := by omega
  have s1 : S < 32 := by omega
  have n0 : 0 ≤ N := by omega
  have n1 : N < 32 := by omega
  have HS : Hid (S.toNat = 32 - n ∧ N.toNat = n) := ⟨by omega, by omega⟩
  clear hS hK hN h0 h1
  go_enter Tryd.func75, Tryd.ntmps75
  go_wp2
  go_ret
  exact ⟨by unfold rr; rw [← HS.out.1, ← HS.out.2]; rfl, rfl⟩
set_option maxHeartbeats 1000000 in
theorem right_any (x : Int) (n : Nat) (N : Int) (h0 : 1 ≤ n) (h1 : n ≤ 31) (hN : (n : Int) = N) (w : World) : Calls Tryd.prog 58 #[.int .u32 x, .int .i64 N] w fun e w' => e = .returned (.int .u32 (rr x n)) ∧ w' = w := by
  obtain ⟨K, hK⟩ : ∃ K : Int, K = -N := ⟨_, rfl⟩
  have e1 : IntKind.i64.wrap (-N) = K := by rw [IntKind.wrap_i64]; omega
  have HR : Hid (∀ v, Calls Tryd.prog 75 #[.int .u32 x, .int .i64 K] v fun e w' => e = .returned (.int .u32 (rr x n)) ∧ w' = v) := fun v => rotl_any x n N K h0 h1 hN hK v
  obtain ⟨R, hR⟩ : ∃ R, rr x n = R := ⟨_, rfl⟩
  rw [hR] at HR ⊢
  clear h0 h1 hN hK hR
  go_enter Tryd.func58, Tryd.ntmps58
  go_wp2_with (go_at_call 75; refine (HR.out _).mono ?_; rintro e w9 ⟨rfl, hw9⟩; rw [hw9]; clear hw9)
  go_ret
  exact ⟨rfl, rfl⟩
theorem right_I (x N : Int) (h0 : 1 ≤ N) (h1 : N ≤ 31) (w : World) : Calls Tryd.prog 58 #[.int .u32 x, .int .i64 N] w fun e w' => e = .returned (.int .u32 (rr x N.toNat)) ∧ w' = w :=
  right_any x N.toNat N (by omega) (by omega) (by omega) w
/-- an index into a slice of bytes -/
theorem sidx {p o n cap j : Nat} (hj : (j : Int) < n) (w : World) : Sem.run Tryd.prog (Instr.indexAt 23 (.slice (some ⟨p, o, none⟩) n cap) (.int .i64 (j : Int))) w = .ok (.pointer (some ⟨p, o + j, none⟩)) w := by
  have u := Tryd.underlying23
  have h0 : (0 : Int) ≤ j := Int.natCast_nonneg j
  have c3 : Tryd.prog.cellsOf 5 = 1 := by kernel_rfl
  have e : (⟨p, o, none⟩ : Addr).add j = ⟨p, o + j, none⟩ := by unfold Addr.add; split <;> simp_all
  go_simp
/-- an index into an array that is a value -/
theorem vidxW {T : TypeId} {n : Nat} (u : Tryd.prog.underlying T = some (.array n 47)) (cs : Array Value) (k : Nat) (v : Value) (hk : (k : Int) < n) (hv : cs[k]? = some v) (w : World) : Sem.run Tryd.prog (Instr.index T (.agg cs) (.int .i64 (k : Int))) w = .ok v w := by
  have h0 : (0 : Int) ≤ k := Int.natCast_nonneg k
  have u2 := Tryd.underlying47
  have c3 : Tryd.prog.cellsOf 47 = 1 := by kernel_rfl
  have r1 : ∀ w, Sem.run Tryd.prog (underlying T) w = .ok (.array n 47) w := run_underlying u
  have r2 : ∀ w, Sem.run Tryd.prog (underlying 47) w = .ok (.int .u32) w := run_underlying u2
  have hk2 : k < n := by omega
  unfold Instr.index part isAgg
  go_simp
end Go.Proofs.YtocimfhagkcnlaaDoor
