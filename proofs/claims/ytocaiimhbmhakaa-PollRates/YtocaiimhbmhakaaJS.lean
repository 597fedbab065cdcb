/- How far questions lie apart; rows of ints that the call has made. -/
import Derived.Test.YtocaiimhbmhakaaJIb
namespace Go.Proofs.Ytocaiimhbmhakaa
open Go Go.RowKit
theorem sent_eq (s : Pl) (now sys : Int) : (sentS s now sys).next = ck now + if 0 < (sentS s now sys).left then 2 else pw (sentS s now sys).exp := by
  unfold sentS
  split <;> rfl
theorem sent_left0 {s : Pl} (h : s.left = 0) (now sys : Int) : (sentS s now sys).left = 0 ∨ (sentS s now sys).left = 5 := by
  unfold sentS
  rw [if_pos h]
  show stL s = 0 ∨ stL s = 5
  unfold stL
  by_cases hc : (if stR s = 0 then s.ib else s.burst) = true ∧ stG s ≤ 12
  · rw [if_pos hc]; exact .inr rfl
  · rw [if_neg hc]; exact .inl rfl
theorem sent_left1 {s : Pl} (h : ¬ s.left = 0) (now sys : Int) : (sentS s now sys).left = s.left - 1 := by
  unfold sentS
  rw [if_neg h]
  rfl
theorem sent_least (s : Pl) (now sys : Int) : (sentS s now sys).least = s.least := by unfold sentS waitS; split <;> rfl
/-- so many questions back there is a long wait -/
def mkB (l : Int) : Int := if l = 0 then 1 else 7 - l
structure Rt (a : As) (L : List Int) (s : Pl) : Prop where
  ok : OkL s
  lo : s.least = a.minp
  n0 : 0 ≤ s.next
  nb : s.next ≤ 1024 * ((L.length : Int) + 1)
  p0 : ∀ j, 0 ≤ L.getD j 0
  ge : ∀ j, j < L.length → L.getD j 0 ≤ s.next
  far : ∀ j, j < L.length → mkB s.left ≤ (L.length : Int) - j → L.getD j 0 + pw a.minp ≤ s.next
theorem Rt.heard {a : As} {L : List Int} {s : Pl} (h : Rt a L s) : Rt a L (heardS s) := ⟨h.ok.heard, h.lo, h.n0, h.nb, h.p0, h.ge, h.far⟩
theorem Rt.six {a : As} {L : List Int} {s : Pl} (h : Rt a L s) (j : Nat) (hj : j + 6 = L.length) : L.getD j 0 + pw a.minp ≤ s.next := by
  refine h.far j (by omega) ?_
  have := h.ok.l0
  have := h.ok.l1
  unfold mkB
  split <;> omega
theorem getD_snoc (L : List Int) (x : Int) (j : Nat) : (L ++ [x]).getD j 0 = if j < L.length then L.getD j 0 else if j = L.length then x else 0 := by
  simp only [List.getD_eq_getElem?_getD]
  split
  · rw [List.getElem?_append_left (by omega)]
  · rw [List.getElem?_append_right (by omega)]
    split
    · rename_i h; subst h; simp
    · rw [List.getElem?_eq_none (by simp; omega)]; rfl
theorem Rt.sent {a : As} {L : List Int} {s : Pl} (h : Rt a L s) (hl : L.length ≤ 4096) (sys : Int) : Rt a (L ++ [s.next]) (sentS s s.next sys) := by
  have hc : ck s.next = s.next := by have := h.n0; have := h.nb; unfold ck; omega
  have hk := h.ok.sent s.next sys
  have he := sent_eq s s.next sys
  rw [hc] at he
  have hle := sent_least s s.next sys
  have hp : pw a.minp ≤ pw (sentS s s.next sys).exp := pw_mono _ _ (by have := hk.le; have := h.lo; omega)
  have hp8 := pw_ge (sentS s s.next sys).exp (by have := hk.lo; have := hk.le; omega)
  have hpb := pw_bd (sentS s s.next sys).exp (by have := hk.em; have := hk.hi; omega)
  have hl0 := sent_left0 (s := s) (now := s.next) (sys := sys)
  have hl1 := sent_left1 (s := s) (now := s.next) (sys := sys)
  have k0 := hk.l0
  have k1 := hk.l1
  have s0 := h.ok.l0
  have s1 := h.ok.l1
  generalize sentS s s.next sys = t at *
  have hW : s.next + 2 ≤ t.next ∧ t.next ≤ s.next + 1024 ∧ (t.left = 0 → s.next + pw a.minp ≤ t.next) := by
    rw [he]
    split
    · refine ⟨by omega, by omega, fun h => by omega⟩
    · refine ⟨by omega, by omega, fun h => by omega⟩
  refine ⟨hk, by rw [hle]; exact h.lo, by have := h.n0; omega, ?_, fun j => ?_, fun j hj => ?_, fun j hj hm => ?_⟩
  · have := h.nb
    rw [List.length_append]
    simp
    omega
  · rw [getD_snoc]
    have := h.n0
    have := h.p0 j
    split
    · omega
    · split <;> omega
  · rw [getD_snoc]
    rw [List.length_append] at hj
    simp at hj
    split
    · rename_i hlt
      have := h.ge j hlt
      omega
    · split <;> (have := h.n0; omega)
  · rw [getD_snoc]
    rw [List.length_append] at hj hm
    simp at hj hm
    split
    · rename_i hlt
      by_cases ht : t.left = 0
      · have := h.ge j hlt
        have := hW.2.2 ht
        omega
      · have := h.far j hlt (by
          unfold mkB at hm ⊢
          rw [if_neg ht] at hm
          by_cases hs : s.left = 0
          · rw [if_pos hs]
            omega
          · rw [if_neg hs]
            have := hl1 hs
            omega)
        omega
    · rename_i hlt
      have hjL : j = L.length := by omega
      rw [if_pos hjL]
      refine hW.2.2 ?_
      unfold mkB at hm
      by_cases ht : t.left = 0
      · exact ht
      · rw [if_neg ht] at hm
        omega
def zL (z : Int) : List Value := [.int .i64 z]
/-- a row of ints that the call has made -/
def OI (w : World) (B : Nat) (v : Value) (zs : List Int) : Prop := OR w B 3 1 v (zs.map zL)
theorem oi_fresh (w : World) (B : Nat) (hB : B ≤ w.heap.size) : OI (w.alloc (.cells #[] 3)) B (.slice (some ⟨w.heap.size, 0, none⟩) 0 0) [] := OR.fresh w B _ 1 hB
theorem tiI : TI 47 3 1 8 := by
  refine ⟨Try.underlying47, ?_, by decide⟩
  have h : (Try.prog.info? 3).map (fun i => (i.zero, i.size, i.bytes)) = some (some (.int .i64 0), 1, 8) := by kernel_rfl
  cases hi : Try.prog.info? 3 with
  | none => rw [hi] at h; cases h
  | some i =>
    rw [hi] at h
    simp at h
    exact ⟨i, _, rfl, h.1, h.2.1, h.2.2, rfl⟩
theorem OI.mod {w w' : World} {B q : Nat} {v : Value} {zs : List Int} (h : OI w B v zs) (hg : w.grownBy w' (some q)) (hq : q < B) : OI w' B v zs := by
  refine OR.mod h hg (fun e => ?_)
  rcases h.row.2 with ⟨e1, _⟩ | ⟨g, cap, cur, e1, e2, _⟩
  · rw [e1] at e; simp [Value.ownBlock] at e
  · rw [e1] at e; simp [Value.ownBlock] at e; omega
theorem OI.form {w : World} {B : Nat} {v : Value} {zs : List Int} (h : OI w B v zs) : ∃ ao cap, v = .slice ao zs.length cap := by
  obtain ⟨ao, cap, h1, _⟩ := h.rk
  rw [List.length_map] at h1
  exact ⟨ao, cap, h1⟩
theorem OI.at {w : World} {B : Nat} {ao : Option Addr} {n cap : Nat} {zs : List Int} (h : OI w B (.slice ao n cap) zs) (k : Nat) (hk : k < zs.length) : ∃ ad : Addr, (∀ u, Sem.run Try.prog (Instr.indexAt 47 (.slice ao n cap) (.int .i64 (k : Int))) u = .ok (.pointer (some ad)) u) ∧ w.cell? ad = some (.int .i64 (zs.getD k 0)) := by
  obtain ⟨ao', cap', h1, h2, h3⟩ := h.rk
  rw [List.length_map] at h1 h2
  injection h1 with e1 e2 e3
  subst e1 e2 e3
  obtain ⟨ad, k1, k2, k3⟩ := h3 k (by rw [List.length_map]; exact hk)
  refine ⟨ad.add k, fun u => ?_, ?_⟩
  · subst k1
    have u' := Try.underlying47
    have c3 : Try.prog.cellsOf 3 = 1 := by kernel_rfl
    have h0 : (0 : Int) ≤ k := Int.natCast_nonneg k
    have h1 : (k : Int) < zs.length := by omega
    go_simp
  · have := k3 0 (.int .i64 (zs.getD k 0)) (by rw [getD_map' zL zs k hk, List.getD_eq_getElem?_getD, List.getElem?_eq_getElem hk]; rfl)
    rw [Nat.mul_one, Nat.add_zero] at this
    exact this
theorem run_appI (w : World) (B : Nat) (v : Value) (zs : List Int) (z : Int) (hown : OI w B v zs) (hl : zs.length ≤ 1000000) (hB : B ≤ w.heap.size) :
    ∃ v' w', (Builtin.append_ #[47, 47] 47 #[v, .slice (some ⟨w.heap.size, 0, none⟩) 1 1]).run Try.prog (w.alloc (.cells #[.int .i64 z] 3)) = .ok v' w' ∧ OI w' B v' (zs ++ [z]) ∧ Below B w w' := by
  have hz : (w.alloc (.cells #[.int .i64 z] 3)).heap.size = w.heap.size + 1 := by simp
  have hx : Rk (w.alloc (.cells #[.int .i64 z] 3)).heap.size (w.alloc (.cells #[.int .i64 z] 3)) 1 (.slice (some ⟨w.heap.size, 0, none⟩) 1 1) ([z].map zL) := by
    refine ⟨some ⟨w.heap.size, 0, none⟩, 1, rfl, by simp, fun i hi => ⟨_, rfl, by simp, fun j u hu => ?_⟩⟩
    have hi0 : i = 0 := by simpa using hi
    subst hi0
    have := cells_of (l := zL z) (Bk.new w (zL z).toArray 3) j u hu
    show (w.alloc (.cells (zL z).toArray 3)).cell? _ = _
    simpa using this
  obtain ⟨v', w', h1, h2, h3, h4⟩ := run_appk tiI 47 _ B _ v _ (zs.map zL) ([z].map zL) (OR.alloc hown _) hx (fun n c e => by injection e with e; cases e) (fun r hr => by obtain ⟨s, _, rfl⟩ := List.mem_map.1 hr; rfl) (fun r hr u hu => by obtain ⟨s, _, rfl⟩ := List.mem_map.1 hr; simp [zL] at hu; rw [hu]; rfl) (by rw [List.length_map, List.length_map]; unfold maxLen; simp; omega) (by rw [List.length_map, List.length_map]; simp; omega) (by omega)
  refine ⟨v', w', h1, by unfold OI; rw [List.map_append]; exact h2, ((Below.refl B w).alloc hB _).grown h3 (by omega) (fun k hk => ?_)⟩
  rcases hown.row.2 with ⟨e1, _⟩ | ⟨g, cap, cur, e1, e2, _⟩
  · rw [e1] at hk; simp [Value.ownBlock] at hk
  · rw [e1] at hk; simp [Value.ownBlock] at hk; omega
theorem wpList_appI {w w' : World} {ops : Array Oper} {rest : List Oper} {o : Oper} {a : Act} {Q : Exit → Act → World → Prop} (hgd : o.guard = none) (s x : Operand)
    (ho : o.op = .call { callee := .builtin .append, args := #[s, x], argTypes := #[47, 47] }) (hty : o.type = 47) (v xv v' : Value) (hs : a.eval s = v) (hx : a.eval x = xv)
    (hr : (Builtin.append_ #[47, 47] 47 #[v, xv]).run Try.prog w = .ok v' w') (h : wpList Try.prog ops Q rest (a.put o.dst v') w') : wpList Try.prog ops Q (o :: rest) a w :=
  wpList_plain hgd fun K hK => by
    unfold Oper.wp execOp
    simp only [ho, hty, resolve, invoke, builtin, Sem.run_bind, Sem.run_pure, Result.andThen_ok, List.map_toArray, List.map_cons, List.map_nil, hs, hx, hr]
    exact hK _ _ h
/-- a poll, and a row of ints made later -/
structure Wo (w : World) (a : As) (p B : Nat) (s : Pl) (v : Value) (L : List Int) (u : World) : Prop where
  wd : Wd w a p s u
  oi : OI u B v L
  sz : B ≤ u.heap.size
  pb : p < B
  wb : w.heap.size < B
theorem Wo.drewN {w u : World} {a : As} {p B : Nat} {s : Pl} {v : Value} {L : List Int} (h : Wo w a p B s v L u) (n : Nat) : Wo w a p B s v L (u.drewN n) := ⟨h.wd.drewN n, OR.drewN h.oi n, h.sz, h.pb, h.wb⟩
theorem Wo.mod {w u u' : World} {a : As} {p B : Nat} {s s' : Pl} {v : Value} {L : List Int} (h : Wo w a p B s v L u) (hp : Po u' p s') (hg : u.grownBy u' (some p)) : Wo w a p B s' v L u' := ⟨h.wd.mod hp hg, h.oi.mod hg h.pb, Nat.le_trans h.sz hg.size, h.pb, h.wb⟩
theorem Wo.app {w u u' : World} {a : As} {p B : Nat} {s : Pl} {v v' : Value} {L L' : List Int} (h : Wo w a p B s v L u) (ho : OI u' B v' L') (hb : Below B u u') : Wo w a p B s v' L' u' :=
  ⟨⟨h.wd.po.below hb h.pb, h.wd.ak.kept (hb.block _ h.wb), h.wd.be.trans (hb.mono (Nat.le_of_lt h.wb)), h.wd.lt⟩, ho, Nat.le_trans h.sz hb.size, h.pb, h.wb⟩
theorem wo_due {w u : World} {a : As} {p B : Nat} {s : Pl} {v : Value} {L : List Int} (h : Wo w a p B s v L u) (n : Int) (b : Bool) (hb : decide (s.next ≤ ck n) = b) : Calls Try.prog 11 #[.pointer (some ⟨p, 0, none⟩), .int .i64 n] u fun e w' => e = .returned (.bool b) ∧ Wo w a p B s v L w' :=
  (due_any p s n u h.wd.po).mono fun _ _ ⟨h1, m, h2⟩ => ⟨by rw [h1, hb], by rw [h2]; exact h.drewN m⟩
theorem wo_sent {w u : World} {a : As} {p B : Nat} {s : Pl} {v : Value} {L : List Int} (h : Wo w a p B s v L u) (ok : OkL s) (now sys : Int) (s' : Pl) (hs : sentS s now sys = s') : Calls Try.prog 12 #[.pointer (some ⟨p, 0, none⟩), .int .i64 now, .int .i64 sys] u fun e w' => e = .returned (.tuple #[]) ∧ Wo w a p B s' v L w' :=
  (sent_any p s now sys u h.wd.po ok).mono fun _ _ ⟨h1, h2, h3⟩ => ⟨h1, by rw [← hs]; exact h.mod h2 h3⟩
theorem wo_heard {w u : World} {a : As} {p B : Nat} {s : Pl} {v : Value} {L : List Int} (h : Wo w a p B s v L u) (ok : OkL s) (now : Int) : Calls Try.prog 16 #[.pointer (some ⟨p, 0, none⟩), .int .i64 now] u fun e w' => e = .returned (.tuple #[]) ∧ Wo w a p B (heardS s) v L w' :=
  (heard_any p s now u h.wd.po ⟨ok.r0, ok.r1⟩).mono fun _ _ ⟨h1, h2, h3⟩ => ⟨h1, h.mod h2 h3⟩
end Go.Proofs.Ytocaiimhbmhakaa
