/- A filter in memory; what New, sample and tell return. -/
import Derived.Test.YtgkjgkdlcmmpoaaFB
import Derived.Test.YtgkjgkdlcmmpoaaFP
namespace Go.Proofs.Ytgkjgkdlcmmpoaa
open Go Go.RowKit Fi
/-- a sample's cells -/
def smL (s : Smp) : List Value := [.int .i64 s.o, .int .i64 s.d, .int .i64 s.p, .int .u64 s.a]
theorem smL_len (xs : List Smp) : ∀ r ∈ xs.map smL, r.length = 4 := fun r hr => by
  obtain ⟨x, _, rfl⟩ := List.mem_map.1 hr; rfl
theorem smL_one (s : Smp) : ∀ u ∈ smL s, u.oneCell' = true := fun u hu => by
  simp [smL] at hu; rcases hu with rfl | rfl | rfl | rfl <;> rfl
/-- a row of samples, its cells -/
def smF (xs : List Smp) : List Value := (xs.map smL).flatten
theorem smF_len (xs : List Smp) : (smF xs).length = xs.length * 4 := by unfold smF; rw [flat_len (smL_len xs), List.length_map]
theorem smF_get (xs : List Smp) (i j : Nat) (hi : i < xs.length) (hj : j < 4) : (smF xs)[i * 4 + j]? = (smL xs[i])[j]? := by
  unfold smF
  rw [flat_get (smL_len xs) i j (by rw [List.length_map]; exact hi) hj, getD_map' smL xs i hi]
theorem smF_set (xs : List Smp) (i : Nat) (s : Smp) (hi : i < xs.length) : (smF xs).take (i * 4) ++ smL s ++ (smF xs).drop (i * 4 + 4) = smF (xs.set i s) := by
  unfold smF
  rw [flat_set (smL_len xs) i (smL s) (by rw [List.length_map]; exact hi), List.map_set]
/-- cells within a block are stored -/
theorem run_stin {w : World} {p : Nat} {T : TypeId} {cs : List Value} (h : Bk p w cs.toArray T) (e : TypeId) (o : Nat) (r : List Value) (hi : (Try.prog.info? e).map (·.size) = some r.length) (hle : o + r.length ≤ cs.length) (h1 : ∀ u ∈ r, u.oneCell' = true) :
    (storeVar e ⟨p, o, none⟩ (.agg r.toArray)).run Try.prog w = .ok () (w.setRow p (cs.take o ++ r ++ cs.drop (o + r.length)).toArray) := by
  have hst := run_storeCells_at (P := Try.prog) p o T r 0 cs.toArray w h (by simpa using hle) h1
  rw [Nat.add_zero] at hst
  cases hq : Try.prog.info? e with
  | none => simp [hq] at hi
  | some ii =>
    have hs : ii.size = r.length := by simpa [hq] using hi
    simp [storeVar, sizeOf, typeInfo, hq, Value.cells, hs]
    simpa using hst
theorem wp_stin {o : Oper} {a : Act} {w : World} {K : Act → World → Prop} {Q : Exit → Act → World → Prop} (e : TypeId) (x y : Operand) (ho : o.op = .store e x y)
    {p : Nat} {T : TypeId} {cs : List Value} (h : Bk p w cs.toArray T) (i : Nat) (r : List Value) (hx : a.eval x = .pointer (some ⟨p, i, none⟩)) (hy : a.eval y = .agg r.toArray) (hi : (Try.prog.info? e).map (·.size) = some r.length) (hle : i + r.length ≤ cs.length) (h1 : ∀ u ∈ r, u.oneCell' = true)
    (hK : K (a.put o.dst undef) (w.setRow p (cs.take i ++ r ++ cs.drop (i + r.length)).toArray)) : o.wp Try.prog a w K Q := by
  unfold Oper.wp execOp
  simp only [ho, hx, hy, Instr.storeAt, Instr.sureAddr, Sem.run_bind, Sem.run_pure, Result.andThen_ok, run_stin h e i r hi hle h1]
  exact hK
theorem wpList_stin {ops : Array Oper} {rest : List Oper} {o : Oper} {a : Act} {w : World} {Q : Exit → Act → World → Prop} (hgd : o.guard = none) (e : TypeId) (x y : Operand) (ho : o.op = .store e x y)
    {p : Nat} {T : TypeId} {cs : List Value} (h : Bk p w cs.toArray T) (i : Nat) (r : List Value) (hx : a.eval x = .pointer (some ⟨p, i, none⟩)) (hy : a.eval y = .agg r.toArray) (hi : (Try.prog.info? e).map (·.size) = some r.length) (hle : i + r.length ≤ cs.length) (h1 : ∀ u ∈ r, u.oneCell' = true)
    (hK : wpList Try.prog ops Q rest (a.put o.dst undef) (w.setRow p (cs.take i ++ r ++ cs.drop (i + r.length)).toArray)) : wpList Try.prog ops Q (o :: rest) a w :=
  wpList_plain hgd fun _ hk => wp_stin e x y ho h i r hx hy hi hle h1 (hk _ _ hK)
/-- a filter's cells -/
def Fc (rs : List Smp) (n c : Int) (t : Bool) (la : Int) : List Value := smF rs ++ [.int .i64 n, .int .i64 c, .bool t, .int .u64 la]
/-- a filter in block p, its cells -/
structure Fb (w : World) (p : Nat) (rs : List Smp) (n c : Int) (t : Bool) (la : Int) : Prop where
  len : rs.length = 8
  blk : Bk p w (Fc rs n c t la).toArray 51
theorem Fc_len {rs : List Smp} (h : rs.length = 8) (n c : Int) (t : Bool) (la : Int) : (Fc rs n c t la).length = 36 := by unfold Fc; rw [List.length_append, smF_len, h]; rfl
theorem Fb.lt {w : World} {p : Nat} {rs : List Smp} {n c : Int} {t : Bool} {la : Int} (h : Fb w p rs n c t la) : p < w.heap.size := h.blk.lt
theorem Fb.frozen {w : World} {p : Nat} {rs : List Smp} {n c : Int} {t : Bool} {la : Int} (h : Fb w p rs n c t la) (k : Nat) : w.frozen? ⟨p, k, none⟩ = false := h.blk.frozen k
theorem Fb.tail {w : World} {p : Nat} {rs : List Smp} {n c : Int} {t : Bool} {la : Int} (h : Fb w p rs n c t la) (k : Nat) : w.cell? ⟨p, 32 + k, none⟩ = ([.int .i64 n, .int .i64 c, .bool t, .int .u64 la] : List Value)[k]? := by
  rw [h.blk.cell]
  simp only [List.getElem?_toArray]
  unfold Fc
  rw [List.getElem?_append_right (by rw [smF_len, h.len]; omega), smF_len, h.len, Nat.add_sub_cancel_left]
theorem Fb.n {w : World} {p : Nat} {rs : List Smp} {n c : Int} {t : Bool} {la : Int} (h : Fb w p rs n c t la) : w.cell? ⟨p, 32, none⟩ = some (.int .i64 n) := h.tail 0
theorem Fb.c {w : World} {p : Nat} {rs : List Smp} {n c : Int} {t : Bool} {la : Int} (h : Fb w p rs n c t la) : w.cell? ⟨p, 33, none⟩ = some (.int .i64 c) := h.tail 1
theorem Fb.t {w : World} {p : Nat} {rs : List Smp} {n c : Int} {t : Bool} {la : Int} (h : Fb w p rs n c t la) : w.cell? ⟨p, 34, none⟩ = some (.bool t) := h.tail 2
theorem Fb.la {w : World} {p : Nat} {rs : List Smp} {n c : Int} {t : Bool} {la : Int} (h : Fb w p rs n c t la) : w.cell? ⟨p, 35, none⟩ = some (.int .u64 la) := h.tail 3
theorem add_at (g o k : Nat) : (⟨g, o, none⟩ : Addr).add k = ⟨g, o + k, none⟩ := by unfold Addr.add; split <;> simp_all
theorem Fb.at {w : World} {p : Nat} {rs : List Smp} {n c : Int} {t : Bool} {la : Int} (h : Fb w p rs n c t la) (i : Nat) (hi : i < 8) : ∀ j u, (smL (rs.getD i z0))[j]? = some u → w.cell? ((⟨p, i * 4, none⟩ : Addr).add j) = some u := fun j u hu => by
  have hj : j < 4 := by
    rcases Nat.lt_or_ge j 4 with hlt | hge
    · exact hlt
    · rw [List.getElem?_eq_none (by simpa [smL] using hge)] at hu; cases hu
  have hi' : i < rs.length := by rw [h.len]; exact hi
  rw [add_at, h.blk.cell]
  simp only [List.getElem?_toArray]
  unfold Fc
  rw [List.getElem?_append_left (by rw [smF_len, h.len]; omega), smF_get rs i j hi' hj, ← hu, List.getD_eq_getElem?_getD, List.getElem?_eq_getElem hi']
  rfl
theorem Fb.kept {w w' : World} {p : Nat} {rs : List Smp} {n c : Int} {t : Bool} {la : Int} (h : Fb w p rs n c t la) (hb : w'.heap[p]? = w.heap[p]?) : Fb w' p rs n c t la := ⟨h.len, h.blk.kept hb⟩
theorem Fb.set {w : World} {p : Nat} {rs : List Smp} {n c : Int} {t : Bool} {la : Int} (h : Fb w p rs n c t la) (k : Nat) (v : Value) (n' c' : Int) (t' : Bool) (la' : Int) (e : ([.int .i64 n, .int .i64 c, .bool t, .int .u64 la] : List Value).set k v = [.int .i64 n', .int .i64 c', .bool t', .int .u64 la']) : Fb (w.setCell ⟨p, 32 + k, none⟩ v) p rs n' c' t' la' := by
  refine ⟨h.len, ?_⟩
  have := h.blk.set (j := 32 + k) v
  have e2 : (Fc rs n c t la).toArray.setIfInBounds (32 + k) v = (Fc rs n' c' t' la').toArray := by
    simp only [List.setIfInBounds_toArray]
    congr 1
    unfold Fc
    rw [List.set_append_right _ _ (by rw [smF_len, h.len]; omega), smF_len, h.len, ← e, Nat.add_sub_cancel_left]
  rw [e2] at this
  exact this
theorem Fb.setN {w : World} {p : Nat} {rs : List Smp} {n c : Int} {t : Bool} {la : Int} (h : Fb w p rs n c t la) (x : Int) : Fb (w.setCell ⟨p, 32, none⟩ (.int .i64 x)) p rs x c t la := h.set 0 _ _ _ _ _ rfl
theorem Fb.setC {w : World} {p : Nat} {rs : List Smp} {n c : Int} {t : Bool} {la : Int} (h : Fb w p rs n c t la) (x : Int) : Fb (w.setCell ⟨p, 33, none⟩ (.int .i64 x)) p rs n x t la := h.set 1 _ _ _ _ _ rfl
theorem Fb.setT {w : World} {p : Nat} {rs : List Smp} {n c : Int} {t : Bool} {la : Int} (h : Fb w p rs n c t la) (x : Bool) : Fb (w.setCell ⟨p, 34, none⟩ (.bool x)) p rs n c x la := h.set 2 _ _ _ _ _ rfl
theorem Fb.setL {w : World} {p : Nat} {rs : List Smp} {n c : Int} {t : Bool} {la : Int} (h : Fb w p rs n c t la) (x : Int) : Fb (w.setCell ⟨p, 35, none⟩ (.int .u64 x)) p rs n c t x := h.set 3 _ _ _ _ _ rfl
theorem Fb.setS {w : World} {p : Nat} {rs : List Smp} {n c : Int} {t : Bool} {la : Int} (h : Fb w p rs n c t la) (i : Nat) (hi : i < 8) (s : Smp) : Fb (w.setRow p ((Fc rs n c t la).take (i * 4) ++ smL s ++ (Fc rs n c t la).drop (i * 4 + (smL s).length)).toArray) p (rs.set i s) n c t la := by
  refine ⟨by rw [List.length_set]; exact h.len, ?_⟩
  have e : (Fc rs n c t la).take (i * 4) ++ smL s ++ (Fc rs n c t la).drop (i * 4 + (smL s).length) = Fc (rs.set i s) n c t la := by
    have hl : (smF rs).length = 32 := by rw [smF_len, h.len]
    unfold Fc
    rw [show (smL s).length = 4 from rfl, List.take_append_of_le_length (by omega), List.drop_append_of_le_length (by omega), ← smF_set rs i s (by rw [h.len]; exact hi)]
    simp
  rw [e]
  exact setRow_heap w p _ _ _ _ h.blk
/-- a filter that has these samples, the newest first -/
structure Fl (w : World) (p : Nat) (xs : List Smp) (t : Bool) (la : Int) : Prop where
  len : xs.length ≤ 8
  ex : ∃ (rs : List Smp) (n : Nat), n < 8 ∧ (∀ i, i < xs.length → rs.getD ((n + i) % 8) z0 = xs.getD i z0) ∧ Fb w p rs n xs.length t la
theorem Fl.lt {w : World} {p : Nat} {xs : List Smp} {t : Bool} {la : Int} (h : Fl w p xs t la) : p < w.heap.size := by obtain ⟨_, _, _, _, _, h⟩ := h; exact h.lt
theorem Fl.kept {w w' : World} {p : Nat} {xs : List Smp} {t : Bool} {la : Int} (h : Fl w p xs t la) (hb : w'.heap[p]? = w.heap[p]?) : Fl w' p xs t la := by
  obtain ⟨h1, rs, n, h2, h3, h4⟩ := h; exact ⟨h1, rs, n, h2, h3, h4.kept hb⟩
theorem Fl.below {w w' : World} {p B : Nat} {xs : List Smp} {t : Bool} {la : Int} (h : Fl w p xs t la) (hb : Below B w w') (hq : p < B) : Fl w' p xs t la := h.kept (hb.block p hq)
theorem Fl.grown {w w' : World} {p : Nat} {r : Option Nat} {xs : List Smp} {t : Bool} {la : Int} (h : Fl w p xs t la) (hb : w.grownBy w' r) (hq : some p ≠ r) : Fl w' p xs t la := h.kept (hb.block p h.lt hq)
set_option maxRecDepth 20000 in
set_option maxHeartbeats 400000 in
theorem new_any (w : World) :
    Calls Try.prog 8 #[] w fun e w' => e = .returned (.pointer (some ⟨w.heap.size, 0, none⟩)) ∧ Fl w' w.heap.size [] false 0 ∧ Below w.heap.size w w' ∧ w'.heap.size = w.heap.size + 1 := by
  go_enter Try.func8, Try.ntmps8
  go_wp2
  go_ret
  refine ⟨rfl, ⟨by simp, List.replicate 8 z0, 0, by omega, fun i hi => by simp at hi, by simp, Bk.new _ _ _⟩, (Below.refl _ _).alloc (Nat.le_refl _) _, by simp⟩
end Go.Proofs.Ytgkjgkdlcmmpoaa
