/- assoc: List, Heard, Hops; rows that a call makes. -/
import Derived.Test.YtnjdmkgkpdebdaaKG
namespace Go.Proofs.Ytnjdmkgkpdebdaa
open Go Go.RowKit Go.Sort
set_option linter.unusedVariables false
theorem step_bsL {ops : Array Oper} {rest : List Oper} {o : Oper} {a : Act} {w : World} {Q : Exit → Act → World → Prop} (hw : Region.wanted o (yielded ops a.tmps) = true) (ts e : TypeId) (x : Operand) (ho : o.op = .buildSlice ts 1 #[(0, x)]) (xv : Value) (r : List Value) (hx : a.eval x = xv)
    (hrun : ∀ u : World, (Instr.buildSlice ts 1 #[(0, xv)]).run Try.prog u = .ok (.slice (some ⟨u.heap.size, 0, none⟩) 1 1) (u.alloc (.cells r.toArray e)))
    (h : ∀ W g, Hid (Nw w W g r.toArray e) → wpList Try.prog ops Q rest (a.put o.dst (.slice (some ⟨g, 0, none⟩) 1 1)) W) : wpList Try.prog ops Q (o :: rest) a w :=
  wpList_step fun K hK => by
    rw [if_pos hw]
    unfold Oper.wp execOp
    simp only [ho, List.map_toArray, List.map_cons, List.map_nil, hx, Sem.run_bind, Sem.run_pure, hrun w, Result.andThen_ok]
    exact hK _ _ (h _ _ (Nw.mk' w r.toArray e))
theorem Nw.rk {w W : World} {g : Nat} {r : List Value} {e : TypeId} (h : Nw w W g r.toArray e) {k : Nat} (hk : r.length = k) : Rk W.heap.size W k (.slice (some ⟨g, 0, none⟩) 1 1) [r] := by
  refine ⟨some ⟨g, 0, none⟩, 1, rfl, Nat.le_refl _, fun i hi => ⟨_, rfl, h.bk.lt, fun j u hu => ?_⟩⟩
  have e : i = 0 := by simp at hi; exact hi
  subst e
  rw [Nat.zero_mul, Nat.zero_add]
  exact cells_of h.bk j u hu
theorem below_own {W W' : World} {B : Nat} {v : Value} (hg : W.grownBy W' v.ownBlock) (hB : B ≤ W.heap.size) (hv : ∀ b, v.ownBlock = some b → B ≤ b) : Below B W W' :=
  ⟨hg.os, hg.tape, hg.output, hg.size, fun k hk => hg.block k (Nat.lt_of_lt_of_le hk hB) (fun e => by have := hv k e.symm; omega)⟩
theorem OR.own {w : World} {B : Nat} {e : TypeId} {k : Nat} {v : Value} {rows : List (List Value)} (h : OR w B e k v rows) : ∀ b, v.ownBlock = some b → B ≤ b := by
  intro b hb
  rcases h.row.2 with ⟨h1, _⟩ | ⟨g, cap, cur, h1, h2, _⟩
  · rw [h1] at hb; cases hb
  · rw [h1] at hb
    simp only [Value.ownBlock] at hb
    injection hb with hb
    omega
theorem step_apL {t e : TypeId} {k by' : Nat} (T : TI t e k by') {w : World} {ops : Array Oper} {rest : List Oper} {o : Oper} {a : Act} {Q : Exit → Act → World → Prop} (hgd : o.guard = none) (s x : Operand)
    (ho : o.op = .call { callee := .builtin .append, args := #[s, x], argTypes := #[t, t] })
    (B g : Nat) (v : Value) (r : List Value) (hs : a.eval s = v) (hx : a.eval x = .slice (some ⟨g, 0, none⟩) 1 1) (hlen : r.length = k) (h1 : ∀ u ∈ r, u.oneCell' = true) (w0 : World) (rows : List (List Value)) (hl : rows.length + 1 ≤ maxLen) (hby : (rows.length + 1) * by' ≤ 140737488355328) (hown : OR w0 B e k v rows) (hn : Nw w0 w g r.toArray e) (hbase : B ≤ w0.heap.size)
    (h : ∀ v' W, Hid (OR W B e k v' (rows ++ [r]) ∧ Below B w0 W) → wpList Try.prog ops Q rest (a.put o.dst v') W) : wpList Try.prog ops Q (o :: rest) a w := by
  have hs1 := hn.be.size
  refine wpList_appk T hgd s x ho B w.heap.size v _ rows [r] hs hx (hown.below hn.be (Nat.le_refl _)) (hn.rk hlen) (fun n c hh => by injection hh with hh; cases hh) (fun y hy => by simp at hy; rw [hy]; exact hlen) (fun y hy u hu => by simp at hy; subst hy; exact h1 u hu) hl hby (by omega) fun v' W h2 h3 _ => ?_
  exact h v' W ⟨h2, (hn.be.mono hbase).trans (below_own h3 (by omega) hown.own)⟩
/-- those that there are -/
def rowsOf (ms : List (Option Mb)) : List Mb := ms.filterMap fun x => x
theorem rows_take {ms : List (Option Mb)} (h : ms.length = 16) (k : Nat) (hk : k < 16) : rowsOf (ms.take (k + 1)) = rowsOf (ms.take k) ++ (match ms.getD k none with | none => [] | some m => [m]) := by
  have hk2 : k < ms.length := by omega
  unfold rowsOf
  rw [List.take_succ_eq_append_getElem hk2, List.filterMap_append, List.getD_eq_getElem?_getD, List.getElem?_eq_getElem hk2]
  congr 1
  simp only [Option.getD_some]
  cases ms[k] <;> rfl
theorem rows_len (ms : List (Option Mb)) : (rowsOf ms).length ≤ ms.length := List.length_filterMap_le _ _
theorem tiEn : TI 55 62 15 104 := by
  refine ⟨Try.underlying55, ?_, by decide⟩
  have h : (Try.prog.info? 62).map (fun i => (i.zero, i.size, i.bytes)) = some (some (.agg (enL zMb).toArray), 15, 104) := by kernel_rfl
  cases hi : Try.prog.info? 62 with
  | none => rw [hi] at h; cases h
  | some i =>
    rw [hi] at h
    simp only [Option.map_some, Option.some.injEq, Prod.mk.injEq] at h
    exact ⟨i, _, rfl, h.1, h.2.1, h.2.2, rfl⟩
theorem tiI : TI 24 3 1 8 := by
  refine ⟨Try.underlying24, ?_, by decide⟩
  have h : (Try.prog.info? 3).map (fun i => (i.zero, i.size, i.bytes)) = some (some (.int .i64 0), 1, 8) := by kernel_rfl
  cases hi : Try.prog.info? 3 with
  | none => rw [hi] at h; cases h
  | some i =>
    rw [hi] at h
    simp only [Option.map_some, Option.some.injEq, Prod.mk.injEq] at h
    exact ⟨i, _, rfl, h.1, h.2.1, h.2.2, rfl⟩
theorem enL_one (m : Mb) : ∀ u ∈ enL m, u.oneCell' = true := by
  intro u hu
  simp only [enL, List.mem_cons, List.not_mem_nil, or_false] at hu
  rcases hu with rfl | rfl | rfl | rfl | rfl | rfl | rfl | rfl | rfl | rfl | rfl | rfl | rfl | rfl | rfl <;> rfl
set_option maxRecDepth 20000 in
theorem run_bsE (m : Mb) (u : World) : (Instr.buildSlice 55 1 #[(0, .agg (enL m).toArray)]).run Try.prog u = .ok (.slice (some ⟨u.heap.size, 0, none⟩) 1 1) (u.alloc (.cells (enL m).toArray 62)) := by
  kernel_rfl
theorem run_bsI (n : Int) (u : World) : (Instr.buildSlice 24 1 #[(0, .int .i64 n)]).run Try.prog u = .ok (.slice (some ⟨u.heap.size, 0, none⟩) 1 1) (u.alloc (.cells #[.int .i64 n] 3)) := by
  kernel_rfl
/-- of a table all blocks lie below B -/
theorem Tb.belowB {w w' : World} {q B : Nat} {ms : List (Option Mb)} (h : Tb w q ms) (hb : Below B w w') (hq : q < B) (hm : ∀ (i : Nat) m, ms[i]? = some (some m) → m.b < B) : Tb w' q ms :=
  ⟨h.tab.kept (hb.block _ hq), h.len, fun i m hi => ⟨(h.mem i m hi).1.kept (hb.block _ (hm i m hi)), (h.mem i m hi).2⟩, h.inj⟩
set_option maxRecDepth 20000 in
set_option maxHeartbeats 1000000 in
theorem list_any (q : Nat) (ms : List (Option Mb)) (w : World) (h : Tb w q ms) : Calls Try.prog 14 #[.pointer (some ⟨q, 0, none⟩)] w fun e w' => ∃ v, e = .returned v ∧ Hid (OR w' w.heap.size 62 15 v ((rowsOf ms).map enL)) ∧ Hid (Below w.heap.size w w') := by
  have HT : Hid (Tb w q ms) := h
  obtain ⟨L, HL, hc, hl⟩ := h.row
  have HC : Hid (∀ j u, L[j]? = some u → w.cell? ((⟨q, 0, none⟩ : Addr).add j) = some u) := hc
  clear h hc
  go_enter Try.func14, Try.ntmps14
  refine post_hid fun Q hQ => ?_
  go_wp2_with (refine step_ldat 72 _ rfl rfl ⟨q, 0, none⟩ (by rfl) L _ Try.underlying72 rfl (by rw [hl.out]; kernel_rfl) HC.out ?_)
  go_loopw [3, 10] (fun v i wr => ∃ (k : Nat), i = .int .i64 k ∧ (k : Int) ≤ 16 ∧ Hid (OR wr w.heap.size 62 15 v ((rowsOf (ms.take k)).map enL) ∧ Below w.heap.size w wr)) (fun _ i _ => 16 - (intOf i).toNat)
  case atStart => exact ⟨0, rfl, by omega, ⟨OR.nil _ _ _ _, Below.refl _ _⟩⟩
  case round =>
    obtain ⟨k, rfl, hk, HR⟩ := hrel
    obtain ⟨v, hv⟩ : ∃ v, v = u3 := ⟨_, rfl⟩
    subst hv
    by_cases hlt : (k : Int) < 16
    · have hix := HT.out.ix HL.out k (by omega)
      have hrw := rows_take HT.out.len k (by omega)
      obtain ⟨x, hx⟩ : ∃ x, x = ms.getD k none := ⟨_, rfl⟩
      rw [← hx] at hix hrw
      have HX : Hid (x = ms.getD k none) := hx
      clear hx
      cases x with
      | none =>
        have HK : Hid (rowsOf (ms.take (k + 1)) = rowsOf (ms.take k)) := by show _ = _; rw [hrw]; simp
        clear hrw
        unfold ptr at hix
        go_wp2_with fail
        go_roundw
        case rel => exact ⟨k + 1, by go_num, by omega, ⟨by rw [HK.out]; exact HR.out.1, HR.out.2⟩⟩
        case measure => simp [intOf]; omega
      | some m =>
        have HK : Hid (rowsOf (ms.take (k + 1)) = rowsOf (ms.take k) ++ [m]) := hrw
        clear hrw
        unfold ptr at hix
        have hM := (HT.out.below HR.out.2).mem k m (getD_some HX.out.symm)
        have HS : Hid (∀ j u, (enL m)[j]? = some u → wr.cell? ((⟨m.b, 0, none⟩ : Addr).add j) = some u) := mb_en hM.1
        clear hM
        have HN : Hid (((rowsOf (ms.take k)).map enL).length ≤ 16) := by
          have h1 := rows_len (ms.take k)
          rw [List.length_take] at h1
          show _ ≤ _
          rw [List.length_map]
          omega
        go_wp2_with (first
          | (refine step_ldat 62 _ rfl rfl ⟨m.b, 0, none⟩ (by rfl) (enL m) _ Try.underlying62 rfl (by kernel_rfl) HS.out ?_)
          | (refine step_bsL (by rfl) 55 62 _ rfl (.agg (enL m).toArray) (enL m) (by rfl) (run_bsE m) ?_; intro w3 g3 H3)
          | (at_builtin; refine step_apL tiEn rfl _ _ rfl w.heap.size g3 v (enL m) (by rfl) (by rfl) rfl (enL_one m) wr _ ?_ ?_ HR.out.1 H3.out HR.out.2.size ?_; (have := HN.out; simp only [maxLen]; omega); (have := HN.out; omega); intro v4 w4 H4))
        go_roundw
        case rel =>
          refine ⟨k + 1, by go_num, by omega, ⟨?_, HR.out.2.trans H4.out.2⟩⟩
          rw [HK.out, List.map_append]
          exact H4.out.1
        case measure => simp [intOf]; omega
    · have HE : Hid (ms.take k = ms) := List.take_of_length_le (by rw [HT.out.len]; omega)
      go_wp2_with fail
      rw [hQ.out]
      go_ret
      have h1 := HR.out.1
      rw [HE.out] at h1
      exact ⟨v, rfl, h1, HR.out.2⟩
end Go.Proofs.Ytnjdmkgkpdebdaa
