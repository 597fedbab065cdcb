/- ChooseSame. -/
import Derived.Test.YtepbbaeamlimaabUL
import Derived.Test.YtepbbaeamlimaabUQ
namespace Go.Proofs.Ytepbbaeamlimaab
open Go Go.RowKit Go.Sort Ch Pu
set_option linter.unusedVariables false
theorem tmod_bd (x m : Int) (hm : 0 < m) : -m < x.tmod m ∧ x.tmod m < m := by
  refine ⟨?_, Int.tmod_lt_of_pos x hm⟩
  have := Int.tmod_lt_of_pos (-x) hm
  rw [Int.neg_tmod] at this
  omega
theorem run_mxS (a b : Int) (u : World) : (Builtin.max_ #[23, 23] 23 #[.int .i64 a, .int .i64 b]).run Try.prog u = .ok (.int .i64 (if a < b then b else a)) u := by simp [go_sem]
/-- alike but for their numbers -/
def lik (O D cj cs : Int) (cp cu : Bool) (k : Nat) : List Cn := (List.range k).map fun (i : Nat) => ⟨(i : Int), O, D, cj, cs, cp, cu⟩
theorem lik_len (O D cj cs : Int) (cp cu : Bool) (k : Nat) : (lik O D cj cs cp cu k).length = k := by unfold lik; simp
theorem lik_succ (O D cj cs : Int) (cp cu : Bool) (k : Nat) : lik O D cj cs cp cu (k + 1) = lik O D cj cs cp cu k ++ [⟨(k : Int), O, D, cj, cs, cp, cu⟩] := by unfold lik; rw [List.range_succ, List.map_append]; rfl
theorem lik_all (O D cj cs : Int) (cp cu : Bool) (k : Nat) : ∀ x ∈ lik O D cj cs cp cu k, x.o = O ∧ x.d = D := by
  intro x hx
  unfold lik at hx
  obtain ⟨i, _, rfl⟩ := List.mem_map.1 hx
  exact ⟨rfl, rfl⟩
/-- within the loop: the list, and the candidate that is turned -/
structure Lk (w w1 u : World) (g : Nat) (v : Value) (xs : List Cn) (I O D cj cs : Int) (cp cu : Bool) : Prop where
  ow : OR u w1.heap.size 25 7 v (xs.map cnL)
  be : Below w.heap.size w u
  bk : Bk g u (cnL ⟨I, O, D, cj, cs, cp, cu⟩).toArray 25
  sz : w1.heap.size ≤ u.heap.size
  g0 : w.heap.size ≤ g
  g1 : g < w1.heap.size
end Go.Proofs.Ytepbbaeamlimaab
