/- assoc: the steps of the laws. -/
import Derived.Test.YtnjdmkgkpdebdaaKQ
namespace Go.Proofs.Ytnjdmkgkpdebdaa
open Go Go.RowKit Go.Sort
set_option linter.unusedVariables false
/-- a step -/
structure Stp where
  k : Int
  ac : As
  id : Int
  now : Int
  pk : List Value
  mode : Int
  poll : Int
  key : Int
  frm : Int
  to : Int
  flags : Int
  auth : Bool
  act : Int
def spC (x : Stp) : List Value := .int .i64 x.k :: (asL x.ac ++ (.int .i64 x.id :: .int .i64 x.now :: (x.pk ++ [.int .u32 x.frm, .int .u32 x.to, .int .i64 x.flags, .bool x.auth, .int .i64 x.act])))
structure okX (x : Stp) : Prop where
  pf : Pf x.pk x.mode x.poll x.key
  wk : (Lit.int .i64 x.ac.kind).wf = true
  wm : (Lit.int .i64 x.mode).wf = true
  wn : (Lit.int .i64 x.now).wf = true
  one : ∀ u ∈ x.pk, u.oneCell' = true
theorem sp_len {x : Stp} (h : okX x) : (spC x).length = 37 := by
  unfold spC
  simp only [List.length_cons, List.length_append, h.pf.len]
  rfl
def sp0 : Stp := ⟨0, zAs, 0, 0, pk0, 4, 0, 0, 0, 0, 0, false, 0⟩
/-- cells of a step -/
theorem sp_at {x : Stp} (h : okX x) : (spC x)[0]? = some (.int .i64 x.k) ∧ (∀ j u, (asL x.ac)[j]? = some u → (spC x)[1 + j]? = some u) ∧ (spC x)[13]? = some (.int .i64 x.id) ∧ (spC x)[14]? = some (.int .i64 x.now) ∧ (∀ j u, x.pk[j]? = some u → (spC x)[15 + j]? = some u) ∧ (spC x)[32]? = some (.int .u32 x.frm) ∧ (spC x)[33]? = some (.int .u32 x.to) ∧ (spC x)[34]? = some (.int .i64 x.flags) ∧ (spC x)[35]? = some (.bool x.auth) ∧ (spC x)[36]? = some (.int .i64 x.act) := by
  have hl := h.pf.len
  have la : (asL x.ac).length = 12 := rfl
  have q : ∀ j, (spC x)[15 + j]? = (x.pk ++ [.int .u32 x.frm, .int .u32 x.to, .int .i64 x.flags, .bool x.auth, .int .i64 x.act])[j]? := fun j => by
    unfold spC
    rw [show 15 + j = (14 + j) + 1 by omega, List.getElem?_cons_succ, List.getElem?_append_right (by rw [la]; omega), la, show 14 + j - 12 = (1 + j) + 1 by omega, List.getElem?_cons_succ, Nat.add_comm 1 j, List.getElem?_cons_succ]
  have r : ∀ j, (spC x)[32 + j]? = ([.int .u32 x.frm, .int .u32 x.to, .int .i64 x.flags, .bool x.auth, .int .i64 x.act] : List Value)[j]? := fun j => by
    rw [show 32 + j = 15 + (17 + j) by omega, q, List.getElem?_append_right (by omega), hl, show 17 + j - 17 = j by omega]
  refine ⟨rfl, fun j u hu => ?_, rfl, rfl, fun j u hu => ?_, r 0, r 1, r 2, r 3, r 4⟩
  · unfold spC
    rw [Nat.add_comm, List.getElem?_cons_succ]
    have hj : j < (asL x.ac).length := by
      rcases Nat.lt_or_ge j (asL x.ac).length with h | h
      · exact h
      · rw [List.getElem?_eq_none h] at hu; cases hu
    rw [List.getElem?_append_left hj]
    exact hu
  · rw [q]
    have hj : j < x.pk.length := by
      rcases Nat.lt_or_ge j x.pk.length with h | h
      · exact h
      · rw [List.getElem?_eq_none h] at hu; cases hu
    rw [List.getElem?_append_left hj]
    exact hu
structure Sx (N : Nat) (w : World) (v : Value) (xs : List Stp) : Prop where
  ex : ∃ ao cap, v = .slice ao xs.length cap ∧ ∀ (k : Nat) (x : Stp), xs[k]? = some x → ∃ ad, ao = some ad ∧ ad.block < N ∧ ∀ j u, (spC x)[j]? = some u → w.cell? ((ad.add (k * 37)).add j) = some u
  ok : ∀ x ∈ xs, okX x
  len : xs.length ≤ 9223372036854775807
theorem Sx.below {N B : Nat} {w w' : World} {v : Value} {xs : List Stp} (h : Sx N w v xs) (hb : Below B w w') (hN : N ≤ B) : Sx N w' v xs := by
  obtain ⟨⟨ao, cap, h1, h2⟩, h3, h4⟩ := h
  refine ⟨⟨ao, cap, h1, fun k x hk => ?_⟩, h3, h4⟩
  obtain ⟨ad, k1, k2, k3⟩ := h2 k x hk
  exact ⟨ad, k1, k2, fun j u hu => (hb.cell (p := (ad.add (k * 37)).add j) (by rw [add_block, add_block]; omega)).trans (k3 j u hu)⟩
/-- a configuration that came in -/
structure Cx (N : Nat) (w : World) (cf : List Value) (xs : List As) (ls mc : Bool) : Prop where
  fm : ∃ av, Cf cf av ls mc ∧ Rk N w 12 av (xs.map asL)
  wk : ∀ a ∈ xs, (Lit.int .i64 a.kind).wf = true
  one : ∀ u ∈ cf, u.oneCell' = true
theorem ix_sp {ao : Option Addr} {ad : Addr} (n cap k : Nat) (h : ao = some ad) (hk : (k : Int) < n) (w : World) : Sem.run Try.prog (Instr.indexAt 30 (.slice ao n cap) (.int .i64 (k : Int))) w = .ok (.pointer (some (ad.add (k * 37)))) w := by
  have u' := Try.underlying30
  have c3 : Try.prog.cellsOf 49 = 37 := by kernel_rfl
  have h0 : (0 : Int) ≤ k := Int.natCast_nonneg k
  subst h
  go_simp
end Go.Proofs.Ytnjdmkgkpdebdaa
