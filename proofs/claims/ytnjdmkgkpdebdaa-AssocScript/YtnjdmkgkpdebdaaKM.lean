/- assoc: Dispatch: a map of pairs, its entries laid in any order. -/
import Derived.Test.YtnjdmkgkpdebdaaGV
import Derived.Test.YtnjdmkgkpdebdaaKK
import Derived.Maps.OwnOps
import Derived.Maps.Views
import Derived.DeepKeys5
namespace Go.Proofs.Ytnjdmkgkpdebdaa
open Go Go.RowKit Go.Sort Go.Maps
set_option linter.unusedVariables false
/-- a pair of numbers as a key -/
def prV (k m : Int) : Value := .agg #[.int .i64 k, .int .i64 m]
set_option maxRecDepth 20000 in
theorem types_few : Try.prog.types.size + 2 ≤ 10000 := by
  have h : Nat.ble (Try.prog.types.size + 2) 10000 = true := by kernel_rfl
  exact Nat.le_of_ble_eq_true h
set_option maxRecDepth 20000 in
theorem type_pair : 92 < Try.prog.types.size := by
  have h : Nat.ble (92 + 1) Try.prog.types.size = true := by kernel_rfl
  exact Nat.le_of_ble_eq_true h
theorem pairKeyed : Keyed Try.prog 92 := Keyed.of_law (deep_law_gate (by kernel_rfl) types_few type_pair (by kernel_rfl) (by kernel_rfl))
theorem pairKey (k m : Int) (hk : (Lit.int .i64 k).wf = true) (hm : (Lit.int .i64 m).wf = true) : ∃ l, keyOf Try.prog 92 (prV k m) = some l := by
  refine ⟨.string (keyBytes [.int .i64 k, .int .i64 m]), ?_⟩
  have h1 : Try.prog.keyType 92 = true := by kernel_rfl
  have h2 : Value.formed Try.prog 92 (prV k m) = true := by kernel_rfl
  have h3 : Try.prog.keyLits (Try.prog.types.size + 1) 92 (prV k m).cells.toList = some [.int .i64 k, .int .i64 m] := by
    have c1 : Try.prog.cellsOf 92 = 2 := by kernel_rfl
    have c2 : Try.prog.cellsOf 3 = 1 := by kernel_rfl
    obtain ⟨n, hn⟩ : ∃ n, Try.prog.types.size = n + 1 := ⟨Try.prog.types.size - 1, by kernel_rfl⟩
    rw [hn]
    have e1 : ∀ x : Int, (Lit.int .i64 x).wf = true → Try.prog.keyLits (n + 1) 3 [.int .i64 x] = some [.int .i64 x] := fun x hx => by
      simp [Program.keyLits, Try.underlying3, hx]
    unfold Program.keyLits
    rw [Try.underlying92]
    simp [c1, c2, prV, Value.cells, List.range, List.range.loop, e1 k hk, e1 m hm]
  unfold keyOf
  simp only [Try.underlying92, h1, h2, h3, Bool.and_self, if_true, Option.map_some]
/-- block b is a map of pairs, of at most n entries; looked up it answers f -/
structure Mp (w : World) (b n : Nat) (f : Int → Int → Int) : Prop where
  own : ∃ D : DataW Unit, w.ownsMap Try.prog 92 (plainElem Try.prog 3) b n D ∧ IsMap D ∧ ∀ k m l, keyOf Try.prog 92 (prV k m) = some l → ∃ ps, plainElem Try.prog 3 (.int .i64 (f k m)) = some (D.atKey l (.lit (.int .i64 0)), ps)
theorem Mp.made (w : World) : Mp (w.alloc (.map #[] 0)) w.heap.size 0 (fun _ _ => 0) :=
  ⟨⟨.map [], World.ownsMap_made w _ _ _, ⟨[], rfl⟩, fun _ _ _ _ => ⟨[], plainElem_int Try.underlying3 (by decide)⟩⟩⟩
theorem Mp.put {w : World} {b n : Nat} {f : Int → Int → Int} (h : Mp w b n f) (hn : n < maxLen) {k m : Int} (hk : (Lit.int .i64 k).wf = true) (hm : (Lit.int .i64 m).wf = true) {v : Int} (hv : (Lit.int .i64 v).wf = true) :
    ∃ w', (Instr.mapUpdate 93 (.map (some b)) (prV k m) (.int .i64 v)).run Try.prog w = .ok () w' ∧ Mp w' b (n + 1) (fun k' m' => if k' = k ∧ m' = m then v else f k' m') ∧ w.grownBy w' (some b) := by
  obtain ⟨D, h1, h2, h3⟩ := h.own
  obtain ⟨l, hl⟩ := pairKey k m hk hm
  obtain ⟨w', g1, g2, g3⟩ := h1.update pairKeyed Try.underlying93 hn hl (plainElem_int Try.underlying3 hv)
  refine ⟨w', g1, ⟨_, g2, ?_, fun k' m' l' hl' => ?_⟩, g3⟩
  · obtain ⟨es, rfl⟩ := h2; exact ⟨_, rfl⟩
  · by_cases e : k' = k ∧ m' = m
    · obtain ⟨rfl, rfl⟩ := e
      rw [hl] at hl'
      injection hl' with hl'
      subst hl'
      rw [if_pos ⟨rfl, rfl⟩, atKey_put_same h2 (pairKeyed.key hl)]
      exact ⟨[], plainElem_int Try.underlying3 hv⟩
    · rw [if_neg e, atKey_put_other (fun h => ?_)]
      · exact h3 k' m' l' hl'
      · subst h
        have := pairKeyed.inj hl hl'
        unfold prV at this
        injection this with this
        simp at this
        exact e ⟨this.1.symm, this.2.symm⟩
theorem zeroInt (w : World) : (zeroValue 3).run Try.prog w = .ok (.int .i64 0) w := by kernel_rfl
theorem Mp.get {w : World} {b n : Nat} {f : Int → Int → Int} (h : Mp w b n f) {k m : Int} (hk : (Lit.int .i64 k).wf = true) (hm : (Lit.int .i64 m).wf = true) :
    (Instr.lookup 93 (.map (some b)) (prV k m) false).run Try.prog w = .ok (.int .i64 (f k m)) w := by
  obtain ⟨D, h1, h2, h3⟩ := h.own
  obtain ⟨l, hl⟩ := pairKey k m hk hm
  obtain ⟨v, ps, g1, g2⟩ := h1.lookup pairKeyed Try.underlying93 (zeroInt w) (plainElem_int Try.underlying3 (by decide)) hl
  obtain ⟨ps', g3⟩ := h3 k m l hl
  obtain ⟨x, rfl, e1, -⟩ := plainElem_int_inv Try.underlying3 g2
  obtain ⟨y, e2, e3, -⟩ := plainElem_int_inv Try.underlying3 g3
  rw [g1, e2]
  have : x = y := by
    have a1 := congrArg Prod.fst e1
    have a2 := congrArg Prod.fst e3
    simp only at a1 a2
    rw [a1] at a2
    simpa using a2
  rw [this]
/-- the entries -/
def kvL : List (Int × Int × Int) := [(0, 1, 3), (2, 1, 2), (7, 1, 2), (2, 2, 2), (0, 3, 1), (1, 3, 1), (2, 3, 1), (3, 3, 1), (4, 3, 1), (5, 3, 1), (6, 3, 1), (7, 3, 1), (8, 3, 1), (9, 3, 1), (0, 4, 5), (1, 4, 2), (4, 4, 2), (5, 4, 2), (9, 4, 2), (0, 5, 4), (8, 5, 2)]
def kvK (j : Nat) : Int := (kvL.getD j (0, 0, 0)).1
def kvM (j : Nat) : Int := (kvL.getD j (0, 0, 0)).2.1
def kvV (j : Nat) : Int := (kvL.getD j (0, 0, 0)).2.2
def regOps : Code → Array Oper
  | .region _ ops _ => ops
  | _ => #[]
def seqAt : Nat → Code → Code
  | 0, .seq a _ => a
  | n + 1, .seq _ b => seqAt n b
  | _, c => c
def dsOps (f : Go.Func) : Array Oper := regOps (seqAt 1 (f.body.getD .skip))
def zOp : Oper := { dst := none, op := .move (.const (.bool true)), type := 0, pos := "", after := #[], guard := none }
def dsO (f : Go.Func) (i : Nat) : Oper := (dsOps f).getD i zOp
theorem ds_size : (dsOps Try.f12).size = 45 := by kernel_rfl
theorem ds_at (i : Nat) (hi : i < 45) : (dsOps Try.f12)[i]? = some (dsO Try.f12 i) := by
  have h : i < (dsOps Try.f12).size := by rw [ds_size]; exact hi
  rw [Array.getElem?_eq_getElem h]
  unfold dsO Array.getD
  simp [h]
theorem ds_fw : ((List.range 45).all fun i => (dsO Try.f12 i).after.all fun e => !Region.binds .any e || Nat.ble (e.on + 1) i) = true := by kernel_rfl
theorem ds_gd : ((List.range 45).all fun i => (dsO Try.f12 i).guard.isNone) = true := by kernel_rfl
theorem ds_guard (i : Nat) (hi : i < 45) : (dsO Try.f12 i).guard = none := by
  have := List.all_eq_true.1 ds_gd i (List.mem_range.2 hi)
  simpa using this
def waits (f : Go.Func) (i k : Nat) : Bool := (dsO f i).after.any fun e => Region.binds .any e && e.on == k
structure DsB (j : Nat) : Prop where
  bo : (dsO Try.f12 (2 * j + 1)).op = .build 92 #[(0, .const (.int .i64 (kvK j))), (1, .const (.int .i64 (kvM j)))]
  bd : (dsO Try.f12 (2 * j + 1)).dst = some (7 + j)
  io : (dsO Try.f12 (2 * j + 2)).op = .insert 93 (.tmp 6) (.tmp (7 + j)) (.const (.int .i64 (kvV j)))
  idd : (dsO Try.f12 (2 * j + 2)).dst = none
  w0 : waits Try.f12 (2 * j + 2) 0 = true
  w1 : waits Try.f12 (2 * j + 2) (2 * j + 1) = true
  wk : (Lit.int .i64 (kvK j)).wf = true
  wm : (Lit.int .i64 (kvM j)).wf = true
  wv : (Lit.int .i64 (kvV j)).wf = true
theorem ds_b (j : Nat) (hj : j < 21) : DsB j := by
  rcases (show j = 0 ∨ j = 1 ∨ j = 2 ∨ j = 3 ∨ j = 4 ∨ j = 5 ∨ j = 6 ∨ j = 7 ∨ j = 8 ∨ j = 9 ∨ j = 10 ∨ j = 11 ∨ j = 12 ∨ j = 13 ∨ j = 14 ∨ j = 15 ∨ j = 16 ∨ j = 17 ∨ j = 18 ∨ j = 19 ∨ j = 20 by omega) with rfl | rfl | rfl | rfl | rfl | rfl | rfl | rfl | rfl | rfl | rfl | rfl | rfl | rfl | rfl | rfl | rfl | rfl | rfl | rfl | rfl
  all_goals exact ⟨by kernel_rfl, by kernel_rfl, by kernel_rfl, by kernel_rfl, by kernel_rfl, by kernel_rfl, by kernel_rfl, by kernel_rfl, by kernel_rfl⟩
theorem kv_apart : ((List.range 21).all fun i => (List.range 21).all fun j => !(kvK i == kvK j && kvM i == kvM j) || i == j) = true := by kernel_rfl
theorem kv_inj (i j : Nat) (hi : i < 21) (hj : j < 21) (h : kvK i = kvK j ∧ kvM i = kvM j) : i = j := by
  have := List.all_eq_true.1 (List.all_eq_true.1 kv_apart i (List.mem_range.2 hi)) j (List.mem_range.2 hj)
  rw [h.1, h.2] at this
  simpa using this
theorem waits_spec {i k : Nat} (h : waits Try.f12 i k = true) {listed : Array Bool} (hall : ∀ e ∈ (dsO Try.f12 i).after, Region.binds .any e = true → listed.getD e.on false = true) : listed.getD k false = true := by
  obtain ⟨e, he, hb, hon⟩ := any_after h
  rw [← hon]
  exact hall e he hb
/-- what stands, when some of it is done -/
structure DsI (kind mode : Int) (w0 : World) (df : List Deferred) (listed : Array Bool) (a : Act) (w : World) : Prop where
  size : a.tmps.size = 34
  dfs : a.defers = df
  t0 : a.tmps.getD 0 undef = .int .i64 kind
  t1 : a.tmps.getD 1 undef = .int .i64 mode
  be : Below w0.heap.size w0 w
  keys : ∀ j, j < 21 → listed.getD (2 * j + 1) false = true → a.tmps.getD (7 + j) undef = prV (kvK j) (kvM j)
  nos : listed.getD 0 false = false → (∀ j, j < 21 → listed.getD (2 * j + 2) false = false) ∧ listed.getD 43 false = false ∧ listed.getD 44 false = false
  map : listed.getD 0 false = true → ∃ b n f, w0.heap.size ≤ b ∧ a.tmps.getD 6 undef = .map (some b) ∧ Mp w b n f ∧ n + listed.toList.count false ≤ 45 ∧ (∀ j, j < 21 → listed.getD (2 * j + 2) false = true → f (kvK j) (kvM j) = kvV j) ∧ (∀ k m, (∀ j, j < 21 → listed.getD (2 * j + 2) false = true → ¬ (kvK j = k ∧ kvM j = m)) → f k m = 0) ∧ (listed.getD 43 false = true → a.tmps.getD 28 undef = .map (some b)) ∧ (listed.getD 44 false = true → a.tmps.getD 5 undef = .map (some b))
end Go.Proofs.Ytnjdmkgkpdebdaa
