/- Rows of the reference's ends that are read, cut and appended to. -/
import Derived.Test.YtepbbaeamlimaabUD
import Derived.Deep.AppendLies
import Derived.Laws.AppendOwnNone
namespace Go.Proofs.Ytepbbaeamlimaab
open Go Go.RowKit Go.Sort Ch Pu
set_option linter.unusedVariables false
theorem getD_lt (xs : List Int) (i : Nat) (h : i < xs.length) : xs.getD i 0 = xs[i] := by rw [List.getD_eq_getElem?_getD, List.getElem?_eq_getElem h]; rfl
theorem edL_len (xs : List Int) : ∀ r ∈ xs.map edL, r.length = 2 := by intro r hr; obtain ⟨z, _, rfl⟩ := List.mem_map.1 hr; rfl
theorem add_at (g i j : Nat) : (⟨g, i, none⟩ : Addr).add j = ⟨g, i + j, none⟩ := by unfold Addr.add; split <;> simp_all
/-- a slice from block B on that reads as these samples -/
structure Sv2 (w : World) (B : Nat) (v : Value) (xs : List Int) : Prop where
  ex : ∃ ao cap, v = .slice ao xs.length cap ∧ xs.length ≤ cap ∧ (ao = none → cap = 0) ∧ (∀ ad, ao = some ad → B ≤ ad.block ∧ ad.block < w.heap.size) ∧ ∀ i, i < xs.length → ∃ ad, ao = some ad ∧ ∀ j u, (edL (xs.getD i 0))[j]? = some u → w.cell? ((ad.add (i * 2)).add j) = some u
theorem Sv2.nil (w : World) (B : Nat) : Sv2 w B (.slice none 0 0) [] := ⟨none, 0, rfl, by simp, fun _ => rfl, fun ad h => (by cases h), fun i hi => (by simp at hi)⟩
theorem cell_same {w w' : World} {a : Addr} (h : w'.heap[a.block]? = w.heap[a.block]?) : w'.cell? a = w.cell? a := by
  unfold World.cell?; rw [h]
theorem Sv2.kept {w w' : World} {B : Nat} {v : Value} {xs : List Int} (h : Sv2 w B v xs) (hz : w.heap.size ≤ w'.heap.size) (hb : ∀ b, B ≤ b → b < w.heap.size → w'.heap[b]? = w.heap[b]?) : Sv2 w' B v xs := by
  obtain ⟨ao, cap, h1, h2, h3, h4, h5⟩ := h.ex
  refine ⟨ao, cap, h1, h2, h3, fun ad had => ?_, fun i hi => ?_⟩
  · have := h4 ad had; omega
  · obtain ⟨ad, k1, k2⟩ := h5 i hi
    have k3 := h4 ad k1
    refine ⟨ad, k1, fun j u hu => (cell_same ?_).trans (k2 j u hu)⟩
    rw [add_block, add_block]
    exact hb _ k3.1 k3.2
theorem Sv2.below {w w' : World} {B C : Nat} {v : Value} {xs : List Int} (h : Sv2 w B v xs) (hb : Below C w w') (hC : w.heap.size ≤ C) : Sv2 w' B v xs := h.kept hb.size fun b _ h2 => hb.block b (by omega)
theorem Sv2.grown {w w' : World} {B q : Nat} {v : Value} {xs : List Int} (h : Sv2 w B v xs) (hg : w.grownBy w' (some q)) (hq : q < B) : Sv2 w' B v xs := h.kept hg.size fun b h1 h2 => hg.block b h2 (fun e => by injection e with e; omega)
theorem Sv2.mono {w : World} {B B' : Nat} {v : Value} {xs : List Int} (h : Sv2 w B v xs) (hB : B' ≤ B) : Sv2 w B' v xs := by
  obtain ⟨ao, cap, h1, h2, h3, h4, h5⟩ := h.ex
  exact ⟨ao, cap, h1, h2, h3, fun ad had => ⟨by have := (h4 ad had).1; omega, (h4 ad had).2⟩, h5⟩
theorem Sv2.len {w : World} {B : Nat} {v : Value} {xs : List Int} (h : Sv2 w B v xs) (u : World) : (Builtin.len_ #[36] 3 #[v]).run Try.prog u = .ok (.int .i64 (xs.length : Int)) u := by
  obtain ⟨ao, cap, rfl, _⟩ := h.ex
  simp [Builtin.len_, run_underlying Try.underlying36, goInt]
theorem Sv2.at {w : World} {B : Nat} {v : Value} {xs : List Int} (h : Sv2 w B v xs) (k : Nat) (hk : k < xs.length) : ∃ ad : Addr, (∀ u, Sem.run Try.prog (Instr.indexAt 36 v (.int .i64 (k : Int))) u = .ok (.pointer (some ad)) u) ∧ (B ≤ ad.block ∧ ad.block < w.heap.size) ∧ ∀ j u, (edL (xs.getD k 0))[j]? = some u → w.cell? (ad.add j) = some u := by
  obtain ⟨ao, cap, rfl, h2, h3, h4, h5⟩ := h.ex
  obtain ⟨ad, rfl, k2⟩ := h5 k hk
  refine ⟨ad.add (k * 2), fun u => ?_, by rw [add_block]; exact h4 ad rfl, k2⟩
  have u' := Try.underlying36
  have c3 : Try.prog.cellsOf 39 = 2 := by kernel_rfl
  have h0 : (0 : Int) ≤ k := Int.natCast_nonneg k
  have h1 : (k : Int) < xs.length := by omega
  go_simp
theorem Sv2.mid {w : World} {B : Nat} {ao : Option Addr} {cap : Nat} {xs : List Int} (h : Sv2 w B (.slice ao xs.length cap) xs) (l r : Nat) (hlr : l ≤ r) (hr : r ≤ xs.length) :
    Sv2 w B (.slice (if cap = l then ao else ao.map (fun a => a.add (l * 2))) (r - l) (cap - l)) ((xs.drop l).take (r - l)) := by
  obtain ⟨ao', cap', he, h1, h2, h3, h4⟩ := h.ex
  injection he with he1 he2 he3
  subst he1; subst he3
  have hlen : ((xs.drop l).take (r - l)).length = r - l := by rw [List.length_take, List.length_drop]; omega
  refine ⟨_, _, by rw [hlen], by omega, fun e => ?_, fun ad had => ?_, fun i hi => ?_⟩
  · by_cases hc : cap = l
    · omega
    · rw [if_neg hc] at e
      cases ao with
      | none => have := h2 rfl; omega
      | some a => cases e
  · by_cases hc : cap = l
    · rw [if_pos hc] at had; exact h3 ad had
    · rw [if_neg hc] at had
      cases ao with
      | none => cases had
      | some a =>
        simp at had
        rw [← had, add_block]; exact h3 a rfl
  · rw [hlen] at hi
    obtain ⟨ad, rfl, k2⟩ := h4 (l + i) (by omega)
    rw [if_neg (by omega)]
    refine ⟨ad.add (l * 2), rfl, fun j u hu => ?_⟩
    have e : ((xs.drop l).take (r - l)).getD i 0 = xs.getD (l + i) 0 := by
      rw [List.getD_eq_getElem?_getD, List.getElem?_take_of_lt (by omega), List.getElem?_drop, List.getD_eq_getElem?_getD]
    rw [e] at hu
    have := k2 j u hu
    rw [Nat.add_mul] at this
    rw [Go.Proofs.Ytepbbaeamlimaab.add_add ad (l * 2) (i * 2)]
    exact this
/-- v[:r] -/
theorem Sv2.take {w : World} {B : Nat} {v : Value} {xs : List Int} (h : Sv2 w B v xs) (r : Nat) (hr : r ≤ xs.length) :
    ∃ v', (∀ u, (Instr.slice 36 v none (some (.int .i64 (r : Int))) none).run Try.prog u = .ok v' u) ∧ Sv2 w B v' (xs.take r) := by
  have hh := h
  obtain ⟨ao, cap, rfl, h1, h2, h3, h4⟩ := h.ex
  have hm := hh.mid 0 r (Nat.zero_le _) hr
  rw [List.drop_zero, Nat.sub_zero] at hm
  refine ⟨_, fun u => ?_, hm⟩
  have q1 : r ≤ cap := by omega
  simp [Instr.slice, Instr.sliceBounds, Instr.sliceBound, asIntOf, run_underlying Try.underlying36, q1]
/-- v[l:] -/
theorem Sv2.drop {w : World} {B : Nat} {v : Value} {xs : List Int} (h : Sv2 w B v xs) (l : Nat) (hl : l ≤ xs.length) :
    ∃ v', (∀ u, (Instr.slice 36 v (some (.int .i64 (l : Int))) none none).run Try.prog u = .ok v' u) ∧ Sv2 w B v' (xs.drop l) := by
  have hh := h
  obtain ⟨ao, cap, rfl, h1, h2, h3, h4⟩ := h.ex
  have hm := hh.mid l xs.length hl (Nat.le_refl _)
  rw [List.take_of_length_le (by rw [List.length_drop]; omega)] at hm
  refine ⟨_, fun u => ?_, hm⟩
  simp [Instr.slice, Instr.sliceBounds, Instr.sliceBound, asIntOf, run_underlying Try.underlying36, hl]
/-- a row of samples that the call has made -/
def O2 (w : World) (B : Nat) (v : Value) (xs : List Int) : Prop := OR w B 39 2 v (xs.map edL)
theorem O2.sv {w : World} {B : Nat} {v : Value} {xs : List Int} (h : O2 w B v xs) : Sv2 w B v xs := by
  rcases h.row.2 with ⟨h1, h2⟩ | ⟨g, cap, cur, h1, h2, h3, h4, h5, h6, h7⟩
  · have e : xs = [] := by cases xs with | nil => rfl | cons a r => simp at h2
    subst e h1
    exact Sv2.nil w B
  · have hg : g < w.heap.size := by
      rcases Nat.lt_or_ge g w.heap.size with hlt | hge
      · exact hlt
      · rw [Array.getElem?_eq_none hge] at h3; cases h3
    rw [List.length_map] at h1 h4
    refine ⟨some ⟨g, 0, none⟩, cap, h1, h4, fun e => (by cases e), fun ad e => (by injection e with e; rw [← e]; exact ⟨h2, hg⟩), fun i hi => ⟨_, rfl, fun j u hu => ?_⟩⟩
    have h' : OR w B 39 2 (.slice (some ⟨g, 0, none⟩) xs.length cap) (xs.map edL) := by rw [← h1]; exact h
    have := h'.at i (by rw [List.length_map]; exact hi) j u (by rw [getD_map' edL xs i hi, ← getD_lt xs i hi]; exact hu)
    rw [add_own]
    exact this
theorem Sv2.rk {w : World} {B : Nat} {v : Value} {xs : List Int} (h : Sv2 w B v xs) : Rk w.heap.size w 2 v (xs.map edL) ∧ Ra v := by
  obtain ⟨ao, cap, rfl, h1, h2, h3, h4⟩ := h.ex
  refine ⟨⟨ao, cap, by rw [List.length_map], by rw [List.length_map]; exact h1, fun i hi => ?_⟩, fun n c e => by injection e with e1 e2 e3; rw [← e3]; exact h2 e1⟩
  rw [List.length_map] at hi
  obtain ⟨ad, k1, k2⟩ := h4 i hi
  refine ⟨ad, k1, (h3 ad k1).2, fun j u hu => ?_⟩
  rw [getD_map' edL xs i hi, ← getD_lt xs i hi] at hu
  have := k2 j u hu
  rw [Go.Proofs.Ytepbbaeamlimaab.add_add] at this
  exact this
/-- append -/
theorem run_app2 (w : World) (B C : Nat) (v xv : Value) (xs ys : List Int) (hown : O2 w B v xs) (hx : Sv2 w C xv ys) (hl : xs.length + ys.length ≤ 1000000) (hB : B ≤ w.heap.size) :
    ∃ v' w', (Builtin.append_ #[36, 36] 36 #[v, xv]).run Try.prog w = .ok v' w' ∧ O2 w' B v' (xs ++ ys) ∧ Below B w w' := by
  obtain ⟨v', w', h1, h2, h3, h4⟩ := run_appk tiD 36 w B w.heap.size v xv (xs.map edL) (ys.map edL) hown hx.rk.1 hx.rk.2 (edL_len ys) (fun r hr u hu => by obtain ⟨s, _, rfl⟩ := List.mem_map.1 hr; exact edL_one s u hu) (by rw [List.length_map, List.length_map]; unfold maxLen; omega) (by rw [List.length_map, List.length_map]; omega) hB
  refine ⟨v', w', h1, by unfold O2; rw [List.map_append]; exact h2, (Below.refl B w).grown h3 hB (fun k hk => ?_)⟩
  rcases hown.row.2 with ⟨e1, _⟩ | ⟨g, cap, cur, e1, e2, _⟩
  · rw [e1] at hk; simp [Value.ownBlock] at hk
  · rw [e1] at hk; simp [Value.ownBlock] at hk; omega
theorem wpList_app2 {w w' : World} {ops : Array Oper} {rest : List Oper} {o : Oper} {a : Act} {Q : Exit → Act → World → Prop} (hgd : o.guard = none) (s x : Operand)
    (ho : o.op = .call { callee := .builtin .append, args := #[s, x], argTypes := #[36, 36] }) (hty : o.type = 36) (v xv v' : Value) (hs : a.eval s = v) (hx : a.eval x = xv)
    (hr : (Builtin.append_ #[36, 36] 36 #[v, xv]).run Try.prog w = .ok v' w') (h : wpList Try.prog ops Q rest (a.put o.dst v') w') : wpList Try.prog ops Q (o :: rest) a w :=
  wpList_plain hgd fun K hK => by
    unfold Oper.wp execOp
    simp only [ho, hty, resolve, invoke, builtin, Sem.run_bind, Sem.run_pure, Result.andThen_ok, List.map_toArray, List.map_cons, List.map_nil, hs, hx, hr]
    exact hK _ _ h
/-- one sample, in a block of its own -/
theorem sv_one (w : World) (s : Int) : Sv2 (w.alloc (.cells (edL s).toArray 39)) w.heap.size (.slice (some ⟨w.heap.size, 0, none⟩) 1 1) [s] := by
  refine ⟨some ⟨w.heap.size, 0, none⟩, 1, rfl, by simp, fun e => (by cases e), fun ad e => (by injection e with e; rw [← e]; simp), fun i hi => ⟨_, rfl, fun j u hu => ?_⟩⟩
  have hi0 : i = 0 := by simpa using hi
  subst hi0
  have := cells_of (l := edL s) (Bk.new w (edL s).toArray 39) j u hu
  rw [add_own, add_at]
  rw [add_own] at this
  simpa using this
end Go.Proofs.Ytepbbaeamlimaab
