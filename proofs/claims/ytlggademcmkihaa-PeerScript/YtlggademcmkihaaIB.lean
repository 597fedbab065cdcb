/- does: a step at one peer. -/
import Derived.Test.YtlggademcmkihaaIA
namespace Go.Proofs.Ytlggademcmkihaa
open Go Go.RowKit Go.Sort
theorem results_4 {fn : Func} {r0 r1 r2 r3 : Tmp} {ty uy : TypeId} (h : fn.results = #[.cell r0 ty, .tmp r1, .tmp r2, .cell r3 uy]) (tmps : Array Value) (w : World) (g g' : Nat) (t u : TypeId) (cs ds : List Value) (d d' : TypeDesc) (x x' : Value)
    (h0 : tmps.getD r0 undef = .pointer (some ⟨g, 0, none⟩)) (h1 : tmps.getD r1 undef = x) (h2 : tmps.getD r2 undef = x') (h3 : tmps.getD r3 undef = .pointer (some ⟨g', 0, none⟩)) (hg : w.heap[g]? = some (.cells cs.toArray t (0, 0))) (hg' : w.heap[g']? = some (.cells ds.toArray u (0, 0)))
    (hu : Try.prog.underlying ty = some d) (hd : d.isRow = true) (hi : (Try.prog.info? ty).map (·.size) = some cs.length) (hu' : Try.prog.underlying uy = some d') (hd' : d'.isRow = true) (hi' : (Try.prog.info? uy).map (·.size) = some ds.length) :
    (results fn tmps).run Try.prog w = .ok (.tuple #[.agg cs.toArray, x, x', .agg ds.toArray]) w := by
  have e0 : tmps[r0]?.getD undef = .pointer (some ⟨g, 0, none⟩) := by simpa using h0
  have e1 : tmps[r1]?.getD undef = x := by simpa using h1
  have e2 : tmps[r2]?.getD undef = x' := by simpa using h2
  have e3 : tmps[r3]?.getD undef = .pointer (some ⟨g', 0, none⟩) := by simpa using h3
  simp [results, h, e0, e1, e2, e3, asAddr, run_loadVar_at w ⟨g, 0, none⟩ ty cs d (cells_of hg) hu hd hi, run_loadVar_at w ⟨g', 0, none⟩ uy ds d' (cells_of hg') hu' hd' hi']
/-- a block of the call's own is stored whole, what comes of it a letter -/
theorem step_own {ops : Array Oper} {rest : List Oper} {ob : Oper} {a : Act} {W : World} {Q : Exit → Act → World → Prop} {T : TypeId} (hw : Region.wanted ob (yielded ops a.tmps) = true) (x y : Operand) (hop : ob.op = .store T x y)
    (g : Nat) (cs' : List Value) (hx : a.eval x = .pointer (some ⟨g, 0, none⟩)) (hy : a.eval y = .agg cs'.toArray) {w : World} {p o : Nat} {s : Ps} {org : Int} {cs : List Value} (L L' : List (Nat × List Value × TypeId)) (h : DW w W p o s org (L ++ (g, cs, T) :: L')) (hne : ∀ x ∈ L ++ L', x.1 ≠ g)
    (hs : (Try.prog.info? T).map (·.size) = some cs'.toArray.size) (hold : cs.length = cs'.length) (h1 : cs'.toArray.all (·.oneCell') = true)
    (hK : ∀ W', DW w W' p o s org (L ++ (g, cs', T) :: L') → wpList Try.prog ops Q rest (a.put ob.dst undef) W') : wpList Try.prog ops Q (ob :: rest) a W :=
  step_stR hw x y hop g cs'.toArray hx hy cs.toArray hs (by simpa using hold) h1 (h.bl (g, cs, T) (by simp)).1 (hK _ (h.own hne (grownBy_row _ _ _) ((h.bl (g, cs, T) (by simp)).1.row _)))
theorem setRow_id {u : World} {g : Nat} {cs : Array Value} {T : TypeId} (h : Bk g u cs T) : u.setRow g cs = u := by
  have e : (u.setRow g cs).heap = u.heap := by
    apply Array.ext
    · simp
    · intro i h1 h2
      by_cases hi : i = g
      · subst hi
        have h3 := setRow_heap u i cs cs T (0, 0) h
        rw [Array.getElem?_eq_getElem h1] at h3
        have h4 := h
        unfold Bk at h4
        rw [Array.getElem?_eq_getElem h2] at h4
        exact Option.some.inj (h3.trans h4.symm)
      · have h3 := setRow_other u g i cs hi
        rw [Array.getElem?_eq_getElem h1, Array.getElem?_eq_getElem h2] at h3
        exact Option.some.inj h3
  have e2 : u.setRow g cs = { u with heap := (u.setRow g cs).heap } := rfl
  rw [e2, e]
/-- a store that changes nothing is quiet -/
theorem qw_noop {ops : Array Oper} {C : World → Prop} {Q : Act → Prop} {rest : List Oper} {ob : Oper} {a : Act} {T : TypeId} (hw : Region.wanted ob (yielded ops a.tmps) = true) (x y : Operand) (hop : ob.op = .store T x y) (g : Nat) (cs : List Value) (hx : a.eval x = .pointer (some ⟨g, 0, none⟩)) (hy : a.eval y = .agg cs.toArray)
    (hs : (Try.prog.info? T).map (·.size) = some cs.length) (h1 : ∀ u ∈ cs, u.oneCell' = true) (hC : ∀ u, C u → Bk g u cs.toArray T) (h : QW Try.prog ops C Q rest (a.put ob.dst undef)) : QW Try.prog ops C Q (ob :: rest) a := by
  constructor
  unfold wpQuiet
  rw [if_pos hw]
  refine ⟨undef, fun u hu => ?_, h.out⟩
  have hr := run_stin (hC u hu) T 0 cs hs (by simp) h1
  simp only [List.take_zero, List.nil_append, Nat.zero_add, List.drop_length, List.append_nil] at hr
  rw [setRow_id (hC u hu)] at hr
  unfold Oper.quietAt execOp
  simp only [hop, hx, hy, Instr.storeAt, Instr.sureAddr, Sem.run_bind, Sem.run_pure, Result.andThen_ok, hr]
  exact ⟨rfl, rfl⟩
theorem qw_ld {ops : Array Oper} {rest : List Oper} {o : Oper} {a : Act} {C : World → Prop} {Q : Act → Prop} (hw : Region.wanted o (yielded ops a.tmps) = true) (ty : TypeId) (x : Operand) (ho : o.op = .load ty x)
    (ad : Addr) (hx : a.eval x = .pointer (some ad)) (cs : List Value) (d : TypeDesc) (hu : Try.prog.underlying ty = some d) (hd : d.isRow = true) (hi : (Try.prog.info? ty).map (·.size) = some cs.length)
    (hc : ∀ w, C w → ∀ j u, cs[j]? = some u → w.cell? (ad.add j) = some u)
    (h : QW Try.prog ops C Q rest (a.put o.dst (.agg cs.toArray))) : QW Try.prog ops C Q (o :: rest) a := ⟨quiet_ld6 hw ty x ho ad hx cs d hu hd hi hc h.out⟩
theorem wpOp_own {ops : Array Oper} {Q : Exit → Act → World → Prop} {i : Nat} {K : Act → World → Prop} {a : Act} {W : World} {T : TypeId} (ob : Oper) (hob : ops[i]? = some ob) (hgd : ob.guard = none) (x y : Operand) (hop : ob.op = .store T x y)
    (g : Nat) (cs' : List Value) (hx : a.eval x = .pointer (some ⟨g, 0, none⟩)) (hy : a.eval y = .agg cs'.toArray) {w : World} {p o : Nat} {s : Ps} {org : Int} {cs : List Value} (L L' : List (Nat × List Value × TypeId)) (h : DW w W p o s org (L ++ (g, cs, T) :: L')) (hne : ∀ x ∈ L ++ L', x.1 ≠ g)
    (hs : (Try.prog.info? T).map (·.size) = some cs'.toArray.size) (hold : cs.length = cs'.length) (h1 : cs'.toArray.all (·.oneCell') = true)
    (hK : ∀ W', DW w W' p o s org (L ++ (g, cs', T) :: L') → K (a.put ob.dst undef) W') : wpOp Try.prog ops Q i K a W :=
  wpOp_st ob hob hgd x y hop cs'.toArray hx hy cs.toArray (h.bl (g, cs, T) (by simp)).1 hs (by simpa using hold) h1 (hK _ (h.own hne (grownBy_row _ _ _) ((h.bl (g, cs, T) (by simp)).1.row _)))
theorem DW.drew {w W : World} {p o : Nat} {s : Ps} {org : Int} {L : List (Nat × List Value × TypeId)} (h : DW w W p o s org L) : DW w W.drew p o s org L := ⟨h.pm, h.og, h.ne, h.lp, h.lo, ⟨h.g2.os, h.g2.tape, h.g2.output, h.g2.size, h.g2.block⟩, h.bl⟩
theorem DW.drewN {w W : World} {p o : Nat} {s : Ps} {org : Int} {L : List (Nat × List Value × TypeId)} (h : DW w W p o s org L) (n : Nat) : DW w (W.drewN n) p o s org L := ⟨h.pm, h.og, h.ne, h.lp, h.lo, ⟨h.g2.os, h.g2.tape, h.g2.output, h.g2.size, h.g2.block⟩, h.bl⟩
theorem DW.at {w W : World} {p o : Nat} {s : Ps} {org : Int} {L : List (Nat × List Value × TypeId)} (h : DW w W p o s org L) (g : Nat) (cs : List Value) (T : TypeId) (hm : (g, cs, T) ∈ L) : ∀ j u, cs[j]? = some u → W.cell? ((⟨g, 0, none⟩ : Addr).add j) = some u := cells_of (h.bl _ hm).1
set_option maxRecDepth 20000 in
set_option maxHeartbeats 1000000 in
theorem does_1 (p o : Nat) (s : Ps) (x : Stp) (org : Int) (w : World) (h : Pm w p s) (ho : Bk o w #[.int .u64 org] 23) (hne : p ≠ o) (hs : okS s) (hx : okX x) (hk : x.k = 1) : Calls Try.prog 13 #[.pointer (some ⟨p, 0, none⟩), .agg (spC x).toArray, .pointer (some ⟨o, 0, none⟩)] w fun e w' => e = .returned (.tuple #[.agg (pkC (dsP s x)).toArray, .bool (dsB s x), .int .i64 (dsV s x org), .agg (smL (dsM s x org)).toArray]) ∧ Pm w' p (dsS s x org) ∧ Bk o w' #[.int .u64 (dsO s x org)] 23 ∧ G2 p o w w' := by
  have HD : Hid (DW w w p o s org []) := ⟨h, ho, hne, Bk.lt h, ho.lt, G2.refl _ _ _, fun b hb => by cases hb⟩
  have HS : Hid (okS s ∧ okX x) := ⟨hs, hx⟩
  clear h ho hne hs hx
  go_enter Try.func13, Try.ntmps13
  refine post_hid fun Q hQ => ?_
  refine seq_hid fun R hR => ?_
  go_wp2_with fail
  refine world_hid fun W hW => ?_
  have HD : Hid (DW w W p o s org [(w.heap.size + 1 + 1, smL sm0, 48), (w.heap.size + 1, pkC pk0, 44), (w.heap.size, spC x, 46)]) := by
    rw [hW.out]
    have h1 := HD.out.push (spC x) 46
    have h2 := h1.push (pkC pk0) 44
    have h3 := h2.push (smL sm0) 48
    simp only [size_alloc1] at h2 h3
    exact h3
  clear hW
  rw [hR.out]
  clear hR
  obtain ⟨V, hV⟩ : ∃ V, vdI s x.q x.a = V := ⟨_, rfl⟩
  obtain ⟨m, hm⟩ : ∃ m, hrS s x.q x.t x.a = m := ⟨_, rfl⟩
  obtain ⟨s2, hs2⟩ : ∃ s2, hrP s x.q x.t x.a = s2 := ⟨_, rfl⟩
  have HH : Hid (∀ u, Pm u p s → Calls Try.prog 29 #[.pointer (some ⟨p, 0, none⟩), .agg (pkC x.q).toArray, .int .u64 x.t, .bool x.a] u fun e w' => e = .returned (.tuple #[.int .i64 V, .agg (smL m).toArray]) ∧ Pm w' p s2 ∧ u.grownBy w' (some p)) := fun u hu => by
    rw [← hV, ← hm, ← hs2]; exact hear_any p s x.q x.t x.a u hu HS.out.1 HS.out.2.q
  have HE : Hid (dsP s x = pk0 ∧ dsB s x = false ∧ dsV s x org = V ∧ dsM s x org = m ∧ dsS s x org = s2 ∧ dsO s x org = org) := by
    unfold dsP dsB dsV dsM dsS dsO
    rw [hk]
    refine ⟨rfl, rfl, hV, hm, hs2, rfl⟩
  clear hV hm hs2
  have HX : Hid (Xb W w.heap.size x) := (HD.out.bl (w.heap.size, spC x, 46) (by simp)).1
  have x0 : W.cell? ⟨w.heap.size, 0, none⟩ = some (.int .i64 1) := by rw [← hk]; exact HX.out.k
  have x13 : W.cell? ⟨w.heap.size, 13, none⟩ = some (.int .u64 x.t) := HX.out.t
  have x31 : W.cell? ⟨w.heap.size, 31, none⟩ = some (.bool x.a) := HX.out.a
  have HP : Hid (∀ j u, (pkC x.q)[j]? = some u → W.cell? ((⟨w.heap.size, 14, none⟩ : Addr).add j) = some u) := HX.out.pk
  clear hk
  go_wp2_with (first
    | (refine step_ldat 44 _ rfl rfl ⟨w.heap.size, 14, none⟩ (by rfl) (pkC x.q) _ Try.underlying44 rfl (by kernel_rfl) HP.out ?_)
    | (go_at_call 29; refine (HH.out _ HD.out.pm).mono ?_; rintro e w5 ⟨rfl, hp5, hg5⟩; have HD5 : Hid _ := HD.out.grown hp5 hg5; clear hp5 hg5)
    | (refine step_own (by rfl) _ _ rfl w5.heap.size (smL m) (by rfl) (by rfl) [] _ (HD5.out.push (smL sm0) 48) ?_ (by kernel_rfl) rfl (smL_one _) ?_; (have l5 := HD5.out.g2.size; intro b hb; simp at hb; (rcases hb with rfl | rfl | rfl <;> (have l6 := (HD5.out.bl _ (by first | exact List.mem_cons_self .. | exact List.mem_cons_of_mem _ (List.mem_cons_self ..) | exact List.mem_cons_of_mem _ (List.mem_cons_of_mem _ (List.mem_cons_self ..)))).1.lt; simp at l6 ⊢; omega))); intro w6 hd6; have HD6 : Hid _ := hd6; clear hd6))
  obtain ⟨b5, hb5⟩ : ∃ b, w5.heap.size = b := ⟨_, rfl⟩
  rw [hb5] at HD6 ⊢
  have Hb5 : Hid (w.heap.size + 1 + 1 < b5) := by
    have l6 := (HD5.out.bl (w.heap.size + 1 + 1, smL sm0, 48) (by simp)).1.lt
    simp only at l6
    show _ < _
    omega
  clear hb5 HD5 HP HX x0 x13 x31 HH
  refine wp_region_lastW (by kernel_rfl) (by kernel_rfl) (by rfl) (by kernel_rfl) ?_
  simp only [idleLast, idle]
  repeat (first
    | (refine qw_noop (by rfl) _ _ rfl (w.heap.size + 1) (pkC pk0) (by rfl) (by rfl) (by kernel_rfl) (by simp [pkC, pk0, Value.oneCell']) (fun u hu => ?_) ?_; (obtain ⟨nu, rfl⟩ := hu; exact (HD6.out.bl (w.heap.size + 1, pkC pk0, 44) (by simp)).1))
    | (refine qw_ld (by rfl) 48 _ rfl ⟨b5, 0, none⟩ (by rfl) (smL m) _ Try.underlying48 rfl (by kernel_rfl) (fun u hu => ?_) ?_; (obtain ⟨nu, rfl⟩ := hu; exact HD6.out.at b5 (smL m) 48 (by simp)))
    | (refine qw_step (fun K hK => ?_); go_simp; refine hK _ ?_; clear hK K))
  refine qw_nil ?_
  intro W7 hw'
  obtain ⟨nq, hw''⟩ := hw'
  have HD7 : Hid (DW w W7 p o s2 org [(b5, smL m, 48), (w.heap.size + 1 + 1, smL sm0, 48), (w.heap.size + 1, pkC pk0, 44), (w.heap.size, spC x, 46)]) := by rw [hw'']; exact HD6.out.drewN nq
  clear hw''
  refine wpOp_own _ (by rfl) rfl _ _ rfl (w.heap.size + 1 + 1) (smL m) (by rfl) (by rfl) [(b5, smL m, 48)] [(w.heap.size + 1, pkC pk0, 44), (w.heap.size, spC x, 46)] HD7.out ?_ (by kernel_rfl) rfl (smL_one _) ?_
  · have l5 := Hb5.out
    intro b hb
    simp at hb
    rcases hb with rfl | rfl | rfl <;> first | (simp; done) | (simp; omega)
  intro W8 hd8
  have HD8 : Hid _ := hd8
  clear hd8 HD6 HD7
  go_wp2_with fail
  rw [hQ.out]
  rw [HE.out.1, HE.out.2.1, HE.out.2.2.1, HE.out.2.2.2.1, HE.out.2.2.2.2.1, HE.out.2.2.2.2.2]
  refine bodyPost_ret (v := .tuple #[.agg (pkC pk0).toArray, .bool false, .int .i64 V, .agg (smL m).toArray]) (results_4 Try.results13 _ _ (w.heap.size + 1) (w.heap.size + 1 + 1) _ _ (pkC pk0) (smL m) _ _ _ _ (by rfl) (by rfl) (by rfl) (by rfl) (HD8.out.bl (w.heap.size + 1, pkC pk0, 44) (by simp)).1 (HD8.out.bl (w.heap.size + 1 + 1, smL m, 48) (by simp)).1 Try.underlying44 rfl (by kernel_rfl) Try.underlying48 rfl (by kernel_rfl)) rfl ⟨rfl, HD8.out.pm, HD8.out.og, HD8.out.g2⟩
end Go.Proofs.Ytlggademcmkihaa
