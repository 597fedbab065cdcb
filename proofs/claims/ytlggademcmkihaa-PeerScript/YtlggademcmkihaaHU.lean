/- learn of the program. -/
import Derived.Test.YtlggademcmkihaaHT
namespace Go.Proofs.Ytlggademcmkihaa
open Go Go.RowKit
theorem run_stin {w : World} {p : Nat} {T : TypeId} {cs : List Value} (h : Bk p w cs.toArray T) (e : TypeId) (o : Nat) (r : List Value) (hi : (Try.prog.info? e).map (·.size) = some r.length) (hle : o + r.length ≤ cs.length) (h1 : ∀ u ∈ r, u.oneCell' = true) :
    (storeVar e ⟨p, o, none⟩ (.agg r.toArray)).run Try.prog w = .ok () (w.setRow p (cs.take o ++ r ++ cs.drop (o + r.length)).toArray) := by
  have hst := run_storeCells_at (P := Try.prog) p o T r 0 cs.toArray w h (by simpa using hle) h1
  rw [Nat.add_zero] at hst
  cases hq : Try.prog.info? e with
  | none => simp [hq] at hi
  | some ii =>
    have hs : ii.size = r.length := by simpa [hq] using hi
    simp [storeVar, sizeOf, typeInfo, hq, Value.cells, hs]
    simpa using hst
theorem wp_stin {o : Oper} {a : Act} {w : World} {K : Act → World → Prop} {Q : Exit → Act → World → Prop} (e : TypeId) (x y : Operand) (ho : o.op = .store e x y)
    {p : Nat} {T : TypeId} {cs : List Value} (h : Bk p w cs.toArray T) (i : Nat) (r : List Value) (hx : a.eval x = .pointer (some ⟨p, i, none⟩)) (hy : a.eval y = .agg r.toArray) (hi : (Try.prog.info? e).map (·.size) = some r.length) (hle : i + r.length ≤ cs.length) (h1 : ∀ u ∈ r, u.oneCell' = true)
    (hK : K (a.put o.dst undef) (w.setRow p (cs.take i ++ r ++ cs.drop (i + r.length)).toArray)) : o.wp Try.prog a w K Q := by
  unfold Oper.wp execOp
  simp only [ho, hx, hy, Instr.storeAt, Instr.sureAddr, Sem.run_bind, Sem.run_pure, Result.andThen_ok, run_stin h e i r hi hle h1]
  exact hK
theorem wpList_stin {ops : Array Oper} {rest : List Oper} {o : Oper} {a : Act} {w : World} {Q : Exit → Act → World → Prop} (hgd : o.guard = none) (e : TypeId) (x y : Operand) (ho : o.op = .store e x y)
    {p : Nat} {T : TypeId} {cs : List Value} (h : Bk p w cs.toArray T) (i : Nat) (r : List Value) (hx : a.eval x = .pointer (some ⟨p, i, none⟩)) (hy : a.eval y = .agg r.toArray) (hi : (Try.prog.info? e).map (·.size) = some r.length) (hle : i + r.length ≤ cs.length) (h1 : ∀ u ∈ r, u.oneCell' = true)
    (hK : wpList Try.prog ops Q rest (a.put o.dst undef) (w.setRow p (cs.take i ++ r ++ cs.drop (i + r.length)).toArray)) : wpList Try.prog ops Q (o :: rest) a w :=
  wpList_plain hgd fun _ hk => wp_stin e x y ho h i r hx hy hi hle h1 (hk _ _ hK)
/-- cells of an association stored at once -/
theorem step_pm {ops : Array Oper} {rest : List Oper} {o : Oper} {a : Act} {w : World} {Q : Exit → Act → World → Prop} (hgd : o.guard = none) (e : TypeId) (x y : Operand) (ho : o.op = .store e x y)
    {p : Nat} {s : Ps} (i : Nat) (r : List Value) (s' : Ps) (hx : a.eval x = .pointer (some ⟨p, i, none⟩)) (hy : a.eval y = .agg r.toArray) (hi : (Try.prog.info? e).map (·.size) = some r.length) (hle : i + r.length ≤ 17) (h1 : ∀ u ∈ r, u.oneCell' = true)
    (h : Pm w p s) (he : (psL s).take i ++ r ++ (psL s).drop (i + r.length) = psL s')
    (hK : ∀ w', Pm w' p s' → w.grownBy w' (some p) → w'.heap.size = w.heap.size → wpList Try.prog ops Q rest (a.put o.dst undef) w') : wpList Try.prog ops Q (o :: rest) a w := by
  refine wpList_stin hgd e x y ho h i r hx hy hi hle h1 (hK _ ?_ (grownBy_row _ _ _) (by simp))
  rw [he]
  exact setRow_heap _ _ _ _ _ _ h
theorem Pm.setReq {w : World} {p : Nat} {s : Ps} (h : Pm w p s) (x : Int) : Pm (w.setCell ⟨p, 5, none⟩ (.int .u64 x)) p { s with req := x } := Bk.set h _
theorem Pm.setTaken {w : World} {p : Nat} {s : Ps} (h : Pm w p s) (x : Bool) : Pm (w.setCell ⟨p, 3, none⟩ (.bool x)) p { s with taken := x } := Bk.set h _
theorem Pm.setLast {w : World} {p : Nat} {s : Ps} (h : Pm w p s) (x : Int) : Pm (w.setCell ⟨p, 4, none⟩ (.int .u64 x)) p { s with last := x } := Bk.set h _
/-- as VA, behind stores into the association -/
structure VB (w W : World) (p : Nat) (q : Pk) (s : Ps) : Prop where
  grown : w.grownBy W (some p)
  pk : Kb W w.heap.size q
  pm : Pm W p s
  lt : p < w.heap.size
theorem VB.step {w W W' : World} {p : Nat} {q : Pk} {s s' : Ps} (h : VB w W p q s) (hg : W.grownBy W' (some p)) (hp : Pm W' p s') : VB w W' p q s' :=
  ⟨grownBy_trans h.grown hg, h.pk.kept (hg.block _ h.pk.lt (fun e => by injection e with e; have := h.lt; omega)), hp, h.lt⟩
theorem VB.below {w W W' : World} {p : Nat} {q : Pk} {s : Ps} (h : VB w W p q s) (hb : Below W.heap.size W W') : VB w W' p q s :=
  ⟨grownBy_trans h.grown (grownBy_below hb _), h.pk.kept (hb.block _ h.pk.lt), h.pm.kept (hb.block _ h.pm.lt), h.lt⟩
set_option maxRecDepth 20000 in
set_option maxHeartbeats 2000000 in
theorem learn_any (p : Nat) (s : Ps) (v : Int) (q : Pk) (rec : Int) (a : Bool) (w : World) (h : Pm w p s) : Calls Try.prog 51 #[.pointer (some ⟨p, 0, none⟩), .int .i64 v, .agg (pkC q).toArray, .int .u64 rec, .bool a] w fun e w' => e = .returned (.tuple #[]) ∧ Pm w' p (lrn s v q rec a) ∧ w.grownBy w' (some p) := by
  have HP : Hid (Pm w p s) := h
  obtain ⟨op, hop⟩ : ∃ op, opB s q a = op := ⟨_, rfl⟩
  have C1 : Hid (∀ u, Pm u p s → Calls Try.prog 74 #[.pointer (some ⟨p, 0, none⟩), .agg (pkC q).toArray, .bool a] u fun e w' => e = .returned (.bool op) ∧ Below u.heap.size u w') := fun u hu => by rw [← hop]; exact opens_any p s q a u hu
  have C2 : Hid (∀ u, Calls Try.prog 75 #[.agg (pkC q).toArray] u fun e w' => e = .returned (.agg (tdL (tdO q)).toArray) ∧ Below u.heap.size u w') := toldBy_any q
  obtain ⟨s2, hs2⟩ : ∃ s2, lrn s v q rec a = s2 := ⟨_, rfl⟩
  rw [hs2]
  unfold lrn at hs2
  rw [hop] at hs2
  have HS : Hid ((if v = 1 ∨ v = 2 ∨ v = 5 then s else if v = 3 ∨ v = 4 then (if op = true then { s with heard := true, ex := q.xmt, ea := rec } else s) else if v = 6 then { s with taken := true, last := q.xmt, req := 0 } else if v = 0 then { s with taken := true, last := q.xmt, heard := true, ex := q.xmt, ea := rec, t := tdO q, req := 0 } else { s with req := 0 }) = s2) := hs2
  clear h hop hs2
  go_enter Try.func51, Try.ntmps51
  refine post_hid fun Q hQ => ?_
  refine seq_hid fun R hR => ?_
  go_wp2
  refine world_hid fun W hW => ?_
  have hb : Below w.heap.size w W := by rw [hW.out]; exact (Below.refl _ _).alloc (Nat.le_refl _) _
  have HA : Hid (VB w W p q s) := ⟨grownBy_below hb _, by rw [hW.out]; exact Kb.new _ _, HP.out.kept (hb.block p HP.out.lt), HP.out.lt⟩
  clear hW hb HP
  rw [hR.out]
  clear hR
  by_cases v1 : v = 1 ∨ v = 2 ∨ v = 5
  · have e2 : s = s2 := by rw [← HS.out, if_pos v1]
    subst e2
    clear HS
    rcases v1 with rfl | rfl | rfl <;>
    · go_wp2
      rw [hQ.out]
      refine bodyPost_ret (results_none rfl _ _ _) rfl ?_
      exact ⟨rfl, HA.out.pm, HA.out.grown⟩
  · by_cases v2 : v = 3 ∨ v = 4
    · cases op
      · have e2 : s = s2 := by rw [← HS.out, if_neg v1, if_pos v2]; rfl
        subst e2
        clear HS
        rcases v2 with rfl | rfl <;>
        · go_wp2_with (first
            | (refine step_ldat 44 _ rfl rfl ⟨w.heap.size, 0, none⟩ (by rfl) (pkC q) _ Try.underlying44 rfl (by kernel_rfl) HA.out.pk.all ?_)
            | (go_at_call 74; refine (C1.out _ HA.out.pm).mono ?_; rintro e w6 ⟨rfl, hb6⟩; have HA : Hid (VB w w6 p q s) := VB.below HA.out hb6; clear hb6))
          rw [hQ.out]
          refine bodyPost_ret (results_none rfl _ _ _) rfl ?_
          exact ⟨rfl, HA.out.pm, HA.out.grown⟩
      · have e2 : s2 = { s with heard := true, ex := q.xmt, ea := rec } := by rw [← HS.out, if_neg v1, if_pos v2]; rfl
        subst e2
        clear HS
        rcases v2 with rfl | rfl <;>
        · go_wp2_with (first
            | (refine step_ldat 44 _ rfl rfl ⟨w.heap.size, 0, none⟩ (by rfl) (pkC q) _ Try.underlying44 rfl (by kernel_rfl) HA.out.pk.all ?_)
            | (go_at_call 74; refine (C1.out _ HA.out.pm).mono ?_; rintro e w6 ⟨rfl, hb6⟩; have HA : Hid (VB w w6 p q s) := VB.below HA.out hb6; clear hb6; have k1 := HA.out.pk.xmt)
            | (refine step_pm rfl 86 _ _ rfl 6 [.bool true, .int .u64 q.xmt, .int .u64 rec] { s with heard := true, ex := q.xmt, ea := rec } (by rfl) (by rfl) (by kernel_rfl) (by simp) (by simp [Value.oneCell']) HA.out.pm rfl ?_; intro w8 hp8 hg8 hz8; have HA : Hid (VB w w8 p q _) := VB.step HA.out hg8 hp8; clear hp8 hg8 hz8))
          rw [hQ.out]
          refine bodyPost_ret (results_none rfl _ _ _) rfl ?_
          exact ⟨rfl, HA.out.pm, HA.out.grown⟩
    · have k1 := HA.out.pk.xmt
      have k2 := HA.out.pm.frozen
      by_cases v6 : v = 6
      · subst v6
        have e2 : s2 = { s with taken := true, last := q.xmt, req := 0 } := by rw [← HS.out, if_neg v1, if_neg v2, if_pos rfl]
        subst e2
        clear HS
        have k3 := HA.out.pm.taken
        have k4 := HA.out.pm.last
        have k5 := HA.out.pm.req
        go_wp2
        go_region
        go_wp2
        rw [hQ.out]
        go_end0
        exact ⟨rfl, ((HA.out.pm.setTaken true).setLast q.xmt).setReq 0, grownBy_trans HA.out.grown (grownBy_trans (grownBy_set _ ⟨p, 3, none⟩ _) (grownBy_trans (grownBy_set _ ⟨p, 4, none⟩ _) (grownBy_trans (grownBy_drew _ _) (grownBy_set _ ⟨p, 5, none⟩ _))))⟩
      · have n6 : (v == 6) = false := by simpa using v6
        have n1 : (v == 1) = false := by simp; omega
        have n2 : (v == 2) = false := by simp; omega
        have n3 : (v == 3) = false := by simp; omega
        have n4 : (v == 4) = false := by simp; omega
        have n5 : (v == 5) = false := by simp; omega
        by_cases v0 : v = 0
        · subst v0
          have e2 : s2 = { s with taken := true, last := q.xmt, heard := true, ex := q.xmt, ea := rec, t := tdO q, req := 0 } := by rw [← HS.out, if_neg v1, if_neg v2, if_neg v6, if_pos rfl]
          subst e2
          clear HS
          have k3 := HA.out.pm.taken
          have k4 := HA.out.pm.last
          go_wp2
          go_region
          have HA : Hid (VB w ((W.setCell ⟨p, 3, none⟩ (.bool true)).setCell ⟨p, 4, none⟩ (.int .u64 q.xmt)).drew p q { s with taken := true, last := q.xmt }) := VB.step HA.out (grownBy_trans (grownBy_set _ ⟨p, 3, none⟩ _) (grownBy_trans (grownBy_set _ ⟨p, 4, none⟩ _) (grownBy_drew _ _))) ((HA.out.pm.setTaken true).setLast q.xmt)
          generalize ((W.setCell ⟨p, 3, none⟩ (.bool true)).setCell ⟨p, 4, none⟩ (.int .u64 q.xmt)).drew = W3 at HA ⊢
          clear k1 k2 k3 k4
          have k1 := HA.out.pk.xmt
          go_wp2_with (first
            | (refine step_pm rfl 86 _ _ rfl 6 [.bool true, .int .u64 q.xmt, .int .u64 rec] { s with taken := true, last := q.xmt, heard := true, ex := q.xmt, ea := rec } (by rfl) (by rfl) (by kernel_rfl) (by simp) (by simp [Value.oneCell']) HA.out.pm rfl ?_; intro w8 hp8 hg8 hz8; have HA : Hid (VB w w8 p q _) := VB.step HA.out hg8 hp8; clear hp8 hg8 hz8)
            | (refine step_ldat 44 _ rfl rfl ⟨w.heap.size, 0, none⟩ (by rfl) (pkC q) _ Try.underlying44 rfl (by kernel_rfl) HA.out.pk.all ?_)
            | (go_at_call 75; refine (C2.out _).mono ?_; rintro e w7 ⟨rfl, hb7⟩; have HA : Hid (VB w w7 p q _) := VB.below HA.out hb7; clear hb7)
            | (refine step_pm rfl 60 _ _ rfl 9 (tdL (tdO q)) { s with taken := true, last := q.xmt, heard := true, ex := q.xmt, ea := rec, t := tdO q } (by rfl) (by rfl) (by kernel_rfl) (by simp [tdL]) (by simp [Value.oneCell', tdL]) HA.out.pm rfl ?_; intro w9 hp9 hg9 hz9; have HA : Hid (VB w w9 p q _) := VB.step HA.out hg9 hp9; clear hp9 hg9 hz9; have k5 := HA.out.pm.req; have k6 := HA.out.pm.frozen))
          rw [hQ.out]
          go_end0
          exact ⟨rfl, HA.out.pm.setReq 0, grownBy_trans HA.out.grown (grownBy_set _ ⟨p, 5, none⟩ _)⟩
        · have n0 : (v == 0) = false := by simpa using v0
          have e2 : { s with req := 0 } = s2 := by rw [← HS.out, if_neg v1, if_neg v2, if_neg v6, if_neg v0]
          subst e2
          clear HS v1 v2 v6 v0
          have k5 := HA.out.pm.req
          go_wp2
          rw [hQ.out]
          go_end0
          exact ⟨rfl, HA.out.pm.setReq 0, grownBy_trans HA.out.grown (grownBy_set _ ⟨p, 5, none⟩ _)⟩
end Go.Proofs.Ytlggademcmkihaa
