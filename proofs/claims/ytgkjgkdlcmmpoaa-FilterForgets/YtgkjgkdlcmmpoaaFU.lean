/- Rows of spans that the call has made. -/
import Derived.Test.YtgkjgkdlcmmpoaaFQ
namespace Go.Proofs.Ytgkjgkdlcmmpoaa
open Go Go.RowKit Fi
def zL (z : Int) : List Value := [.int .i64 z]
/-- a row of spans that the call has made -/
def OS (w : World) (B : Nat) (v : Value) (zs : List Int) : Prop := OR w B 23 1 v (zs.map zL)
theorem os_fresh (w : World) (B : Nat) (hB : B ≤ w.heap.size) : OS (w.alloc (.cells #[] 23)) B (.slice (some ⟨w.heap.size, 0, none⟩) 0 0) [] := OR.fresh w B _ 1 hB
theorem tiS : TI 60 23 1 8 := by
  refine ⟨Try.underlying60, ?_, by decide⟩
  have h : (Try.prog.info? 23).map (fun i => (i.zero, i.size, i.bytes)) = some (some (.int .i64 0), 1, 8) := by kernel_rfl
  cases hi : Try.prog.info? 23 with
  | none => rw [hi] at h; cases h
  | some i =>
    rw [hi] at h
    simp at h
    exact ⟨i, _, rfl, h.1, h.2.1, h.2.2, rfl⟩
theorem OS.rs {w : World} {B : Nat} {v : Value} {zs : List Int} (h : OS w B v zs) : ∃ ao cap, v = .slice ao zs.length cap ∧ Rs w ao zs := by
  have hr := h.rk
  obtain ⟨ao, cap, h1, h2, h3⟩ := hr
  rw [List.length_map] at h1 h2
  refine ⟨ao, cap, h1, fun k hk => ?_⟩
  obtain ⟨ad, k1, k2, k3⟩ := h3 k (by rw [List.length_map]; exact hk)
  refine ⟨ad, k1, k2, ?_⟩
  have := k3 0 (.int .i64 (zs.getD k 0)) (by rw [getD_map' zL zs k hk, List.getD_eq_getElem?_getD, List.getElem?_eq_getElem hk]; rfl)
  rw [Nat.mul_one, Nat.add_zero] at this
  exact this
theorem run_appS (w : World) (B : Nat) (v : Value) (zs : List Int) (z : Int) (hown : OS w B v zs) (hl : zs.length ≤ 1000000) (hB : B ≤ w.heap.size) :
    ∃ v' w', (Builtin.append_ #[60, 60] 60 #[v, .slice (some ⟨w.heap.size, 0, none⟩) 1 1]).run Try.prog (w.alloc (.cells #[.int .i64 z] 23)) = .ok v' w' ∧ OS w' B v' (zs ++ [z]) ∧ Below B w w' := by
  have hz : (w.alloc (.cells #[.int .i64 z] 23)).heap.size = w.heap.size + 1 := by simp
  have hx : Rk (w.alloc (.cells #[.int .i64 z] 23)).heap.size (w.alloc (.cells #[.int .i64 z] 23)) 1 (.slice (some ⟨w.heap.size, 0, none⟩) 1 1) ([z].map zL) := by
    refine ⟨some ⟨w.heap.size, 0, none⟩, 1, rfl, by simp, fun i hi => ⟨_, rfl, by simp, fun j u hu => ?_⟩⟩
    have hi0 : i = 0 := by simpa using hi
    subst hi0
    have := cells_of (l := zL z) (Bk.new w (zL z).toArray 23) j u hu
    show (w.alloc (.cells (zL z).toArray 23)).cell? _ = _
    simpa using this
  obtain ⟨v', w', h1, h2, h3, h4⟩ := run_appk tiS 60 _ B _ v _ (zs.map zL) ([z].map zL) (OR.alloc hown _) hx (fun n c e => by injection e with e; cases e) (fun r hr => by obtain ⟨s, _, rfl⟩ := List.mem_map.1 hr; rfl) (fun r hr u hu => by obtain ⟨s, _, rfl⟩ := List.mem_map.1 hr; simp [zL] at hu; rw [hu]; rfl) (by rw [List.length_map, List.length_map]; unfold maxLen; simp; omega) (by rw [List.length_map, List.length_map]; simp; omega) (by omega)
  refine ⟨v', w', h1, by unfold OS; rw [List.map_append]; exact h2, ((Below.refl B w).alloc hB _).grown h3 (by omega) (fun k hk => ?_)⟩
  rcases hown.row.2 with ⟨e1, _⟩ | ⟨g, cap, cur, e1, e2, _⟩
  · rw [e1] at hk; simp [Value.ownBlock] at hk
  · rw [e1] at hk; simp [Value.ownBlock] at hk; omega
theorem step_appS {w w' : World} {ops : Array Oper} {o : Oper} {a : Act} {K : Act → World → Prop} {Q : Exit → Act → World → Prop} {E : Prop} (hgd : o.guard = none) (s x : Operand)
    (ho : o.op = .call { callee := .builtin .append, args := #[s, x], argTypes := #[60, 60] }) (hty : o.type = 60) (v xv v' : Value) (hs : a.eval s = v) (hx : a.eval x = xv)
    (hr : (Builtin.append_ #[60, 60] 60 #[v, xv]).run Try.prog w = .ok v' w') (h : K (a.put o.dst v') w') :
    if Region.wanted o (yielded ops a.tmps) = true then Oper.wp Try.prog o a w K Q else E := by
  have hw : Region.wanted o (yielded ops a.tmps) = true := by simp [Region.wanted, hgd]
  rw [if_pos hw]
  unfold Oper.wp execOp
  simp only [ho, hty, resolve, invoke, builtin, Sem.run_bind, Sem.run_pure, Result.andThen_ok, List.map_toArray, List.map_cons, List.map_nil, hs, hx, hr]
  exact h
end Go.Proofs.Ytgkjgkdlcmmpoaa
