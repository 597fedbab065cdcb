/- Slices of rules, of packets of three numbers and of numbers that came in: opened. -/
import Derived.Test.YtmgphfdieekpdaaEA
import Derived.ProofKit
import Derived.OpenShut
import Derived.Deep.SlicePairs
import Derived.SizedLaws
namespace Go.Proofs.Ytmgphfdieekpdaa
open Go.ChangeShapes Go.WideShapes Go.ChangeAt Go.RowKit Go.Deep
/-- the slice has an address, or it is nil -/
def Ra' (v : Value) : Prop := ∀ n cap, v = .slice none n cap → cap = 0
theorem list3 {α : Type} {l : List α} (h : l.length = 3) : ∃ a b c, l = [a, b, c] := by
  match l, h with
  | [a, b, c], _ => exact ⟨a, b, c, rfl⟩
theorem ra_nil {c : Value} (h : c = .slice none 0 0) : Ra' c := by
  subst h
  intro n cap hc
  cases hc
  rfl
theorem ra_some {c : Value} {a : Addr} {l cp : Nat} (h : c = .slice (some a) l cp) : Ra' c := by
  subst h
  intro n cap hc
  cases hc
/-- what fits 64 bits, 32 bits -/
def I64 (n : Int) : Prop := -9223372036854775808 ≤ n ∧ n ≤ 9223372036854775807
def U32 (n : Int) : Prop := 0 ≤ n ∧ n < 4294967296
theorem u32_wf {n : Int} (h : (Lit.int .u32 n).wf = true) : U32 n := by
  unfold U32
  have e1 : IntKind.u32.min = 0 := by decide
  have e2 : IntKind.u32.max = 4294967295 := by decide
  simp [Lit.wf, e1, e2] at h
  omega
theorem i64_wf {n : Int} (h : (Lit.int .i64 n).wf = true) : I64 n := by
  unfold I64
  have e1 : IntKind.i64.min = -9223372036854775808 := by decide
  have e2 : IntKind.i64.max = 9223372036854775807 := by decide
  simp [Lit.wf, e1, e2] at h
  omega
/-- a slice of structs of three numbers -/
theorem open_rec3 {H : Type} {enc : TypeId × Value → H} {w : World} {base : Nat} {spare : Nat → Bool} {held : Bool} {t e : TypeId} {f0 f1 f2 : Field} {fuel : Nat} {c : Value} {x : DataW H × List MemPlace} (ht : Try.prog.underlying t = some (.slice e)) (he : Try.prog.underlying e = some (.struct #[f0, f1, f2]))
    (ce : Try.prog.cellsOf e = 3) (o0 : f0.offset = 0) (o1 : f1.offset = 1) (o2 : f2.offset = 2) (c0 : Try.prog.cellsOf f0.type = 1) (c1 : Try.prog.cellsOf f1.type = 1) (c2 : Try.prog.cellsOf f2.type = 1)
    (u0 : Try.prog.underlying f0.type = some (.int .u32)) (u1 : Try.prog.underlying f1.type = some (.int .i64)) (u2 : Try.prog.underlying f2.type = some (.int .i64))
    (h : DataW.trod enc Try.prog w base spare held fuel t [c] = some x) :
    ∃ xs : List Ru, Rk w.heap.size w 3 c (xs.map ruL) ∧ Ra' c ∧ (∀ a ∈ xs, U32 a.addr ∧ I64 a.bits ∧ I64 a.flags) ∧ (∀ K, (∀ n ∈ x.1.weights Try.prog t, n ≤ K) → xs.length * Try.prog.bytesOf e ≤ K) := by
  rcases open_slice ht h with ⟨hcs, _⟩ | ⟨a, len, cap, m, n, D, Pl, hcs, hb, hl, hm, hmm, hxd, hx⟩
  · simp at hcs
    exact ⟨[], ⟨none, 0, by rw [hcs]; rfl, by simp, fun i hi => absurd hi (by simp)⟩, ra_nil hcs, by simp, fun K _ => by simp⟩
  · simp at hcs
    have hlm : len ≤ m := by rw [hmm]; split <;> omega
    have each : ∀ i, ∃ r : Ru, i < len → (∀ j u, (ruL r)[j]? = some u → w.cell? (a.add (i * 3 + j)) = some u) ∧ (U32 r.addr ∧ I64 r.bits ∧ I64 r.flags) := fun i => by
      by_cases hi : i < len
      · obtain ⟨cs', h1, h2⟩ := hx i (by omega)
        rw [ce] at h1
        obtain ⟨_, hlen, hcell⟩ := World.cells?_some h1
        obtain ⟨xs, k, hk, hxy, _, hxl, hf⟩ := DataW.trod_struct he h2
        obtain ⟨y0, y1, y2, rfl⟩ := list3 (show xs.length = 3 from hxl)
        obtain ⟨v0, v1, v2, rfl⟩ := list3 hlen
        · skip
          have g0 := hf 0 f0 rfl
          have g1 := hf 1 f1 rfl
          have g2 := hf 2 f2 rfl
          simp [o0, o1, o2, c0, c1, c2] at g0 g1 g2
          obtain ⟨n0, e0, -, w0⟩ := DataW.trod_int u0 g0
          obtain ⟨n1, e1, -, w1⟩ := DataW.trod_int u1 g1
          obtain ⟨n2, e2, -, w2⟩ := DataW.trod_int u2 g2
          simp at e0 e1 e2
          refine ⟨⟨n0, n1, n2⟩, fun _ => ⟨fun j u hu => ?_, u32_wf w0, i64_wf w1, i64_wf w2⟩⟩
          have hj : j < 3 := by
            rcases Nat.lt_or_ge j 3 with hlt | hge
            · exact hlt
            · rw [List.getElem?_eq_none (by simp [ruL]; omega)] at hu; cases hu
          have e4 := hcell j (by omega)
          rw [Go.Proofs.Ytmgphfdieekpdaa.add_add] at e4
          rw [e4]
          match j, hj with
          | 0, _ => simp [ruL] at hu; subst hu e0; rfl
          | 1, _ => simp [ruL] at hu; subst hu e1; rfl
          | 2, _ => simp [ruL] at hu; subst hu e2; rfl
      · exact ⟨⟨0, 0, 0⟩, fun h => absurd h hi⟩
    obtain ⟨F, hF⟩ := Classical.axiomOfChoice each
    have hlen : ((List.range len).map F).length = len := by simp
    refine ⟨(List.range len).map F, ⟨some a, cap, by rw [List.length_map, hlen]; exact hcs, by rw [List.length_map, hlen]; exact hl, fun i hi => ?_⟩, ra_some hcs, fun r hr => ?_, fun K hK => ?_⟩
    · rw [List.length_map, hlen] at hi
      have e5 : ((List.map F (List.range len)).map ruL).getD i [] = ruL (F i) := by
        rw [List.getD_eq_getElem?_getD, List.getElem?_map, List.getElem?_map, List.getElem?_range hi]; rfl
      rw [e5]
      refine ⟨a, rfl, ?_, (hF i hi).1⟩
      have := World.block_lt_of_cell? w _ ((hF i hi).1 0 _ rfl)
      rwa [add_block] at this
    · obtain ⟨i, hi, rfl⟩ := List.mem_map.1 hr
      exact (hF i (List.mem_range.1 hi)).2
    · rw [hlen]
      have h1 := hK ((len + (m - len)) * Try.prog.bytesOf e) (by rw [hxd]; simp [DataW.weights, ht])
      exact Nat.le_trans (Nat.mul_le_mul_right _ (by omega)) h1
/-- a slice of numbers -/
theorem open_nums {H : Type} {enc : TypeId × Value → H} {w : World} {base : Nat} {spare : Nat → Bool} {held : Bool} {t e : TypeId} {k : IntKind} {fuel : Nat} {c : Value} {x : DataW H × List MemPlace} (ht : Try.prog.underlying t = some (.slice e)) (he : Try.prog.underlying e = some (.int k)) (ce : Try.prog.cellsOf e = 1)
    (h : DataW.trod enc Try.prog w base spare held fuel t [c] = some x) :
    ∃ ps : List Int, Rk w.heap.size w 1 c (ps.map fun p => [.int k p]) ∧ Ra' c ∧ (∀ p ∈ ps, (Lit.int k p).wf = true) ∧ (∀ K, (∀ n ∈ x.1.weights Try.prog t, n ≤ K) → ps.length * Try.prog.bytesOf e ≤ K) := by
  rcases open_ints ht he ce h with ⟨hcs, _⟩ | ⟨a, len, cap, zs, hcs, _, hl, hm, hz, hxd, hcell, hwz⟩
  · simp at hcs
    exact ⟨[], ⟨none, 0, by rw [hcs]; rfl, by simp, fun i hi => absurd hi (by simp)⟩, ra_nil hcs, by simp, fun K _ => by simp⟩
  · simp at hcs
    have hzl : len ≤ zs.length := by rw [hz]; split <;> omega
    have hbl : (zs.take len).length = len := by rw [List.length_take]; omega
    refine ⟨zs.take len, ⟨some a, cap, by rw [List.length_map, hbl]; exact hcs, by rw [List.length_map, hbl]; exact hl, fun i hi => ?_⟩, ra_some hcs, fun p hp => hwz p (List.mem_of_mem_take hp), fun K hK => ?_⟩
    · rw [List.length_map, hbl] at hi
      have hc := hcell i (by omega)
      refine ⟨a, rfl, ?_, fun j u hu => ?_⟩
      · have := World.block_lt_of_cell? w _ hc
        rwa [add_block] at this
      · rw [List.getD_eq_getElem?_getD, List.getElem?_map, List.getElem?_take_of_lt hi, List.getElem?_eq_getElem (show i < zs.length by omega)] at hu
        cases j with
        | zero =>
          simp at hu
          rw [Nat.mul_one, Nat.add_zero, hc, ← hu, List.getD_eq_getElem?_getD, List.getElem?_eq_getElem (show i < zs.length by omega)]; rfl
        | succ j => simp at hu
    · rw [hbl]
      have h1 := hK ((len + (zs.length - len)) * Try.prog.bytesOf e) (by rw [hxd]; simp [DataW.weights, ht, lits, Nat.min_eq_left hzl])
      exact Nat.le_trans (Nat.mul_le_mul_right _ (by omega)) h1
end Go.Proofs.Ytmgphfdieekpdaa
