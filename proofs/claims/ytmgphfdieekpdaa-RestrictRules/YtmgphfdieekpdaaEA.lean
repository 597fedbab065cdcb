/- Configurations in memory; what may be, in numbers. -/
import Derived.Test.YtmgphfdieekpdaaRows
import Derived.WalkKit
import Derived.WalkSpells
import Derived.WalkLawsBesides
import Derived.WalkMore
import Derived.WalkSmall
import Derived.Handy
import Derived.Below
import Derived.OwnWalk
import Derived.Deep.MidRow
import Derived.Laws.Rows
namespace Go.Proofs.Ytmgphfdieekpdaa
open Go.RowKit
theorem ret_bool' {a b : Bool} (h : a = b) : Ending.returned (.bool a) = .returned (.bool b) := by rw [h]
theorem ret_int' {k : IntKind} {a b : Int} (h : a = b) : Ending.returned (.int k a) = .returned (.int k b) := by rw [h]
theorem add_block (ad : Addr) (k : Nat) : (ad.add k).block = ad.block := by unfold Addr.add; split <;> rfl
theorem add_add (ad : Addr) (i j : Nat) : (ad.add i).add j = ad.add (i + j) := by
  unfold Addr.add
  by_cases hi : i = 0
  · subst hi; simp
  · by_cases hj : j = 0
    · subst hj; simp
    · rw [if_neg hi, if_neg hj, if_neg (by omega)]; simp; omega
theorem add_own (g k : Nat) : (⟨g, 0, none⟩ : Addr).add k = ⟨g, k, none⟩ := by unfold Addr.add; split <;> simp_all
/-- an association -/
structure As where
  kind : Int
  addr : Int
  key : Int
  minp : Int
  maxp : Int
  burst : Bool
  iburst : Bool
  prefer : Bool
  ttl : Int
  pulse : Bool
  fudge : Int
  stratum : Int
def asL (a : As) : List Value := [.int .i64 a.kind, .int .u32 a.addr, .int .i64 a.key, .int .i64 a.minp, .int .i64 a.maxp, .bool a.burst, .bool a.iburst, .bool a.prefer, .int .i64 a.ttl, .bool a.pulse, .int .i64 a.fudge, .int .i64 a.stratum]
/-- a key: its number, its kind, the slice of its bytes, how many they are -/
structure Ky where
  id : Int
  kind : Int
  bo : Option Addr
  bn : Nat
  bc : Nat
def kyL (k : Ky) : List Value := [.int .i64 k.id, .int .i64 k.kind, .slice k.bo k.bn k.bc]
structure Ru where
  addr : Int
  bits : Int
  flags : Int
def ruL (r : Ru) : List Value := [.int .u32 r.addr, .int .i64 r.bits, .int .i64 r.flags]
/-- a slice of elements of k cells each, below block N: what it reads as -/
def Rk (N : Nat) (w : World) (k : Nat) (v : Value) (xs : List (List Value)) : Prop := ∃ ao cap, v = .slice ao xs.length cap ∧ xs.length ≤ cap ∧
  ∀ i, i < xs.length → ∃ ad, ao = some ad ∧ ad.block < N ∧ ∀ j u, (xs.getD i [])[j]? = some u → w.cell? (ad.add (i * k + j)) = some u
theorem Rk.below {N B k : Nat} {w w' : World} {v : Value} {xs : List (List Value)} (h : Rk N w k v xs) (hb : Below B w w') (hB : N ≤ B) : Rk N w' k v xs := by
  obtain ⟨ao, cap, h1, h2, h3⟩ := h
  refine ⟨ao, cap, h1, h2, fun i hi => ?_⟩
  obtain ⟨ad, g1, g2, g3⟩ := h3 i hi
  exact ⟨ad, g1, g2, fun j u hu => (hb.cell (p := ad.add (i * k + j)) (by rw [add_block]; omega)).trans (g3 j u hu)⟩
theorem Rk.mono {N M k : Nat} {w : World} {v : Value} {xs : List (List Value)} (h : Rk N w k v xs) (hM : N ≤ M) : Rk M w k v xs := by
  obtain ⟨ao, cap, h1, h2, h3⟩ := h
  refine ⟨ao, cap, h1, h2, fun i hi => ?_⟩
  obtain ⟨ad, g1, g2, g3⟩ := h3 i hi
  exact ⟨ad, g1, Nat.lt_of_lt_of_le g2 hM, g3⟩
theorem Rk.take {N k : Nat} {w : World} {ao : Option Addr} {n cap : Nat} {xs : List (List Value)} (h : Rk N w k (.slice ao n cap) xs) (m : Nat) (hm : m ≤ xs.length) : Rk N w k (.slice ao m cap) (xs.take m) := by
  obtain ⟨ao', cap', h1, h2, h3⟩ := h
  injection h1 with e1 e2 e3
  subst e1; subst e3
  refine ⟨ao, cap, by rw [List.length_take, Nat.min_eq_left hm], by rw [List.length_take]; omega, fun i hi => ?_⟩
  rw [List.length_take] at hi
  obtain ⟨ad, g1, g2, g3⟩ := h3 i (by omega)
  refine ⟨ad, g1, g2, fun j u hu => g3 j u ?_⟩
  rw [List.getD_eq_getElem?_getD, List.getElem?_take_of_lt (by omega), ← List.getD_eq_getElem?_getD] at hu
  exact hu
/-- a struct is loaded, wherever it lies -/
theorem run_loadVar_at (w : World) (ad : Addr) (ty : TypeId) (cs : List Value) (d : TypeDesc) (hc : ∀ j u, cs[j]? = some u → w.cell? (ad.add j) = some u)
    (hu : Try.prog.underlying ty = some d) (hd : d.isRow = true) (hi : (Try.prog.info? ty).map (·.size) = some cs.length) :
    (loadVar ty ad).run Try.prog w = .ok (.agg cs.toArray) w := by
  have hl : (loadCells ad cs.length).run Try.prog w = .ok cs.toArray w := run_loadCells_list (P := Try.prog) w ad cs hc
  cases hq : Try.prog.info? ty with
  | none => simp [hq] at hi
  | some i =>
    have hs : i.size = cs.length := by simpa [hq] using hi
    have hagg : (isAgg ty).run Try.prog w = .ok true w := by
      unfold isAgg
      rw [Sem.run_bind, run_underlying hu w]
      cases d <;> simp_all
    simp [loadVar, Sem.run_bind, hagg, sizeOf, typeInfo, hq, hs, hl]
theorem step_ldat {ops : Array Oper} {rest : List Oper} {op : Oper} {a : Act} {w : World} {Q : Exit → Act → World → Prop} (ty : TypeId) (x : Operand) (ho : op.op = .load ty x) (hgd : op.guard = none)
    (ad : Addr) (hx : a.eval x = .pointer (some ad)) (cs : List Value) (d : TypeDesc) (hu : Try.prog.underlying ty = some d) (hd : d.isRow = true) (hi : (Try.prog.info? ty).map (·.size) = some cs.length)
    (hc : ∀ j u, cs[j]? = some u → w.cell? (ad.add j) = some u)
    (h : wpList Try.prog ops Q rest (a.put op.dst (.agg cs.toArray)) w) : wpList Try.prog ops Q (op :: rest) a w :=
  wpList_plain hgd fun K hK => by
    unfold Oper.wp execOp
    simp only [ho, hx, Instr.loadAt, Instr.sureAddr, Sem.run_bind, Sem.run_pure, Result.andThen_ok, run_loadVar_at w ad ty cs d hc hu hd hi]
    exact hK _ _ h
/-- is a number between two? -/
def inB (n lo hi : Int) : Bool := decide (lo ≤ n ∧ n ≤ hi)
/-- thousandths of a second, divided down; their number -/
def th (m : Int) : Int := m * 4294967296 / 1000
def tc (s : Int) : Int := -((-s) * 1000 / 4294967296)
def tmB (s lo hi : Int) : Bool := inB (tc s) lo hi && (th (tc s) == s)
theorem tc_th (m : Int) : tc (th m) = m := by unfold tc th; omega
theorem tmB_iff (s lo hi : Int) : tmB s lo hi = true ↔ ∃ m, lo ≤ m ∧ m ≤ hi ∧ th m = s := by
  unfold tmB inB
  rw [Bool.and_eq_true, decide_eq_true_eq, beq_iff_eq]
  constructor
  · rintro ⟨⟨h1, h2⟩, h3⟩; exact ⟨_, h1, h2, h3⟩
  · rintro ⟨m, h1, h2, rfl⟩; rw [tc_th]; exact ⟨⟨h1, h2⟩, rfl⟩
/-- is it an address of a group; does an address fit the kind -/
def grB (a : Int) : Bool := decide (3758096384 ≤ a ∧ a ≤ 4026531839)
def ftB (a k : Int) : Bool := if k = 3 then grB a || a == 4294967295 else if k = 5 then grB a else !grB a && a != 4294967295 && a != 0
def clB (k : Int) : Bool := decide (k = 3 ∨ k = 5)
def foB (k : Int) : Bool := decide (k = 1 ∨ k = 2)
/-- what is wrong with a clock, with another association -/
def clE (a : As) : Int := if 3 < a.addr ∨ inB a.stratum 0 15 = false ∨ tmB a.fudge (-1000) 1000 = false then 51 else if a.minp ≠ 3 ∨ a.maxp ≠ 3 ∨ a.key ≠ 0 ∨ a.ttl ≠ 0 ∨ a.burst = true ∨ a.iburst = true then 1 else 0
def aqE (a : As) (ids : List Int) : Int := if a.pulse = true ∨ a.fudge ≠ 0 ∨ a.stratum ≠ 0 then 1 else if ftB a.addr a.kind = false then 52 else if a.minp < 3 ∨ 10 < a.maxp ∨ a.maxp < a.minp then 51
  else if a.key ≠ 0 ∧ ids.contains a.key = false then 51 else if (clB a.kind = true ∧ inB a.ttl 1 255 = false) ∨ (clB a.kind = false ∧ a.ttl ≠ 0) then 51 else if foB a.kind = false ∧ (a.prefer = true ∨ a.burst = true ∨ a.iburst = true) then 1 else 0
def acE (a : As) (ids : List Int) : Int := if a.kind < 1 ∨ 6 < a.kind then 1 else if a.kind = 6 then clE a else aqE a ids
end Go.Proofs.Ytmgphfdieekpdaa
