/- does, whatever the step; steps that came in; junk. -/
import Derived.Test.YtlggademcmkihaaID
import Derived.Test.YtlggademcmkihaaIE
import Derived.Test.YtlggademcmkihaaIO
namespace Go.Proofs.Ytlggademcmkihaa
open Go Go.RowKit Go.Sort
theorem does_any (p o : Nat) (s : Ps) (x : Stp) (org : Int) (w : World) (h : Pm w p s) (ho : Bk o w #[.int .u64 org] 23) (hne : p ≠ o) (hs : okS s) (hx : okX x) (ho64 : U64 org) : Calls Try.prog 13 #[.pointer (some ⟨p, 0, none⟩), .agg (spC x).toArray, .pointer (some ⟨o, 0, none⟩)] w fun e w' => e = .returned (.tuple #[.agg (pkC (dsP s x)).toArray, .bool (dsB s x), .int .i64 (dsV s x org), .agg (smL (dsM s x org)).toArray]) ∧ Pm w' p (dsS s x org) ∧ Bk o w' #[.int .u64 (dsO s x org)] 23 ∧ G2 p o w w' := by
  by_cases k0 : x.k = 0
  · exact does_0 p o s x org w h ho hne hs hx k0
  by_cases k1 : x.k = 1
  · exact does_1 p o s x org w h ho hne hs hx k1
  by_cases k2 : x.k = 2
  · exact does_2 p o s x org w h ho hne hs hx k2
  by_cases k3 : x.k = 3
  · exact does_3 p o s x org w h ho hne hs hx ho64 k3
  · exact does_x p o s x org w h ho hne hs hx k0 k1 k2 k3
theorem dsO_u64 {s : Ps} {x : Stp} {org : Int} (hx : okX x) (ho : U64 org) : U64 (dsO s x org) := by
  unfold dsO
  split
  · rename_i h
    unfold rqP
    rw [if_pos h.2.1]
    have := hx.t
    unfold U64 at this ⊢
    simp only
    omega
  · exact ho
/-- a slice below block N that reads as these steps -/
structure Sx (N : Nat) (w : World) (v : Value) (xs : List Stp) : Prop where
  ex : ∃ ao cap, v = .slice ao xs.length cap ∧ ∀ (k : Nat) (x : Stp), xs[k]? = some x → ∃ ad, ao = some ad ∧ ad.block < N ∧ ∀ j u, (spC x)[j]? = some u → w.cell? ((ad.add (k * 32)).add j) = some u
  ok : ∀ x ∈ xs, okX x
  len : xs.length ≤ 9223372036854775807
theorem Sx.below {N B : Nat} {w w' : World} {v : Value} {xs : List Stp} (h : Sx N w v xs) (hb : Below B w w') (hN : N ≤ B) : Sx N w' v xs := by
  obtain ⟨⟨ao, cap, h1, h2⟩, h3, h4⟩ := h
  refine ⟨⟨ao, cap, h1, fun k x hk => ?_⟩, h3, h4⟩
  obtain ⟨ad, k1, k2, k3⟩ := h2 k x hk
  exact ⟨ad, k1, k2, fun j u hu => (hb.cell (p := (ad.add (k * 32)).add j) (by rw [add_block, add_block]; omega)).trans (k3 j u hu)⟩
theorem Sx.at {N : Nat} {w : World} {ao : Option Addr} {n cap : Nat} {xs : List Stp} (h : Sx N w (.slice ao n cap) xs) (k : Nat) (x : Stp) (hk : xs[k]? = some x) : ∃ ad : Addr, (∀ u, Sem.run Try.prog (Instr.indexAt 32 (.slice ao n cap) (.int .i64 (k : Int))) u = .ok (.pointer (some ad)) u) ∧ ad.block < N ∧ ∀ j u, (spC x)[j]? = some u → w.cell? (ad.add j) = some u := by
  obtain ⟨⟨ao', cap', h1, h2⟩, _, _⟩ := h
  injection h1 with e1 e2 e3
  subst e1 e2 e3
  obtain ⟨ad, k1, k2, k3⟩ := h2 k x hk
  have hkl : k < xs.length := by
    rcases Nat.lt_or_ge k xs.length with hlt | hge
    · exact hlt
    · rw [List.getElem?_eq_none hge] at hk; cases hk
  refine ⟨ad.add (k * 32), fun u => ?_, by rw [add_block]; exact k2, k3⟩
  subst k1
  have u' := Try.underlying32
  have c3 : Try.prog.cellsOf 46 = 32 := by kernel_rfl
  have h0 : (0 : Int) ≤ k := Int.natCast_nonneg k
  have h1 : (k : Int) < xs.length := by omega
  go_simp
def Gr (w u : World) : Prop := Below w.heap.size w u
/-- a struct loaded whole, in a class that is a letter -/
theorem qa_ldW {ops : Array Oper} {C : World → Prop} {Q : Act → Prop} {rest : List Oper} {o : Oper} {a : Act} (hw : Region.wanted o (yielded ops a.tmps) = true) (ty : TypeId) (x : Operand) (ho : o.op = .load ty x)
    (ad : Addr) (hx : a.eval x = .pointer (some ad)) (cs : List Value) (d : TypeDesc) (hu : Try.prog.underlying ty = some d) (hd : d.isRow = true) (hi : (Try.prog.info? ty).map (·.size) = some cs.length)
    (hc : ∀ u, C u → ∀ j v, cs[j]? = some v → u.cell? (ad.add j) = some v) (h : QW Try.prog ops C Q rest (a.put o.dst (.agg cs.toArray))) : QW Try.prog ops C Q (o :: rest) a := by
  refine qa_valW hw ⟨_, fun u hu2 => ?_, h⟩
  unfold execOp
  simp only [ho, hx, Instr.loadAt, Instr.sureAddr, Sem.run_bind, Sem.run_pure, Result.andThen_ok, run_loadVar_at u ad ty cs d (hc u hu2) hu hd hi]
theorem wp_region_grown {id : Nat} {Q : Exit → Act → World → Prop} {a : Act} {w : World} {l : List Oper} (hm : Try.prog.follows .mixedOrders = true) (hB : Region.lexB .any l.toArray = true)
    (h : ∀ C : World → Prop, (∀ u, C u → Gr w u) → (∀ u u', C u → Gr u u' → C u') → wpQuiet Try.prog l.toArray C (fun a' => ∀ w', Gr w w' → Q .normal a' w') l a) : (Code.region id l.toArray true).wp Try.prog Q a w :=
  wp_region_quiet (C := Gr w) hm hB ((Below.refl _ _).drew) (by simpa using h (Gr w) (fun u h => h) (fun u u' h k => Below.trans h (Below.mono k (Below.size h))))
set_option maxRecDepth 20000 in
theorem ne_td (t : Td) (o : Oper) (a : Act) (x y : Operand) (ho : o.op = .binOp .neq 60 x y 60) (hx : a.eval x = .agg (tdL t).toArray) (hy : a.eval y = .agg (tdL t).toArray) (u : World) : (execOp a.eval o).run Try.prog u = .ok (.value (.bool false)) u := by
  obtain ⟨t0, t1, t2, t3, t4, t5, t6, t7⟩ := t
  unfold tdL at hx hy
  unfold execOp
  simp only [ho, hx, hy]
  go_simp
set_option maxRecDepth 20000 in
theorem ne_sm (m : Smp) (o : Oper) (a : Act) (x y : Operand) (ho : o.op = .binOp .neq 48 x y 48) (hx : a.eval x = .agg (smL m).toArray) (hy : a.eval y = .agg (smL m).toArray) (u : World) : (execOp a.eval o).run Try.prog u = .ok (.value (.bool false)) u := by
  obtain ⟨t0, t1, t2, t3⟩ := m
  unfold smL at hx hy
  unfold execOp
  simp only [ho, hx, hy]
  go_simp
/-- one peer, the call's own blocks -/
structure KW (w W : World) (p : Nat) (s : Ps) (L : List (Nat × List Value × TypeId)) : Prop where
  pm : Pm W p s
  lp : p < w.heap.size
  gr : w.grownBy W (some p)
  bl : ∀ b ∈ L, Bk b.1 W b.2.1.toArray b.2.2 ∧ w.heap.size ≤ b.1
theorem KW.grown {w W W' : World} {p : Nat} {s s' : Ps} {L : List (Nat × List Value × TypeId)} (h : KW w W p s L) (hp : Pm W' p s') (hg : W.grownBy W' (some p)) : KW w W' p s' L :=
  ⟨hp, h.lp, grownBy_trans h.gr hg, fun b hb => ⟨(h.bl b hb).1.kept (hg.block _ (h.bl b hb).1.lt (fun e => by have := (h.bl b hb).2; have := h.lp; injection e with e; omega)), (h.bl b hb).2⟩⟩
theorem KW.step {w W W' : World} {p : Nat} {s : Ps} {L : List (Nat × List Value × TypeId)} (h : KW w W p s L) (hb : Below W.heap.size W W') : KW w W' p s L :=
  ⟨h.pm.kept (hb.block _ h.pm.lt), h.lp, grownBy_trans h.gr (grownBy_below hb _), fun b hb' => ⟨(h.bl b hb').1.kept (hb.block _ (h.bl b hb').1.lt), (h.bl b hb').2⟩⟩
theorem KW.drewN {w W : World} {p : Nat} {s : Ps} {L : List (Nat × List Value × TypeId)} (h : KW w W p s L) (n : Nat) : KW w (W.drewN n) p s L := ⟨h.pm, h.lp, grownBy_trans h.gr (grownBy_drewN _ _ _), h.bl⟩
theorem KW.push {w W : World} {p : Nat} {s : Ps} {L : List (Nat × List Value × TypeId)} (h : KW w W p s L) (cs : List Value) (T : TypeId) : KW w (W.alloc (.cells cs.toArray T)) p s ((W.heap.size, cs, T) :: L) := by
  have h2 := h.step ((Below.refl W.heap.size W).alloc (Nat.le_refl _) (.cells cs.toArray T))
  refine ⟨h2.pm, h2.lp, h2.gr, fun b hb => ?_⟩
  rcases List.mem_cons.1 hb with rfl | hb
  · exact ⟨Bk.new _ _ _, h.gr.size⟩
  · exact h2.bl b hb
theorem KW.own {w W W' : World} {p g : Nat} {s : Ps} {cs cs' : List Value} {T : TypeId} {L : List (Nat × List Value × TypeId)} (h : KW w W p s ((g, cs, T) :: L)) (hne : ∀ x ∈ L, x.1 ≠ g) (hg : W.grownBy W' (some g)) (hb : Bk g W' cs'.toArray T) : KW w W' p s ((g, cs', T) :: L) := by
  have hgl := (h.bl (g, cs, T) (by simp)).2
  have hk : ∀ k, k < W.heap.size → k ≠ g → W'.heap[k]? = W.heap[k]? := fun k hk hne => hg.block k hk (fun e => hne (Option.some.inj e))
  have l1 := h.lp
  simp only at hgl
  refine ⟨h.pm.kept (hk _ h.pm.lt (by omega)), h.lp, ⟨hg.os.trans h.gr.os, hg.tape.trans h.gr.tape, hg.output.trans h.gr.output, Nat.le_trans h.gr.size hg.size, fun i hi h1 => (hk i (Nat.lt_of_lt_of_le hi h.gr.size) (by omega)).trans (h.gr.block i hi h1)⟩, fun b hb' => ?_⟩
  rcases List.mem_cons.1 hb' with rfl | h1
  · exact ⟨hb, hgl⟩
  · have h2 := h.bl b (List.mem_cons_of_mem _ h1)
    exact ⟨h2.1.kept (hk _ h2.1.lt (hne b h1)), h2.2⟩
/-- a block just made is stored -/
theorem step_knew {ops : Array Oper} {rest : List Oper} {ob : Oper} {a : Act} {W : World} {Q : Exit → Act → World → Prop} {T : TypeId} (hw : Region.wanted ob (yielded ops a.tmps) = true) (x y : Operand) (hop : ob.op = .store T x y)
    (cs cs' : List Value) (hx : a.eval x = .pointer (some ⟨W.heap.size, 0, none⟩)) (hy : a.eval y = .agg cs'.toArray) {w : World} {p : Nat} {s : Ps} {L : List (Nat × List Value × TypeId)} (h : KW w W p s L)
    (hs : (Try.prog.info? T).map (·.size) = some cs'.toArray.size) (hold : cs.length = cs'.length) (h1 : cs'.toArray.all (·.oneCell') = true)
    (hK : ∀ W', KW w W' p s ((W.heap.size, cs', T) :: L) → wpList Try.prog ops Q rest (a.put ob.dst undef) W') : wpList Try.prog ops Q (ob :: rest) a (W.alloc (.cells cs.toArray T)) :=
  step_stR hw x y hop W.heap.size cs'.toArray hx hy cs.toArray hs (by simpa using hold) h1 (Bk.new _ _ _) (hK _ ((h.push cs T).own (fun b hb => by have := (h.bl b hb).1.lt; omega) (grownBy_row _ _ _) ((Bk.new _ _ _).row _)))
theorem KW.at {w W : World} {p : Nat} {s : Ps} {L : List (Nat × List Value × TypeId)} (h : KW w W p s L) (g : Nat) (cs : List Value) (T : TypeId) (hm : (g, cs, T) ∈ L) : ∀ j u, cs[j]? = some u → W.cell? ((⟨g, 0, none⟩ : Addr).add j) = some u := cells_of (h.bl _ hm).1
theorem spC_one (x : Stp) : (spC x).toArray.all (·.oneCell') = true := by kernel_rfl
def sp0 : Stp := ⟨0, ⟨0, 0, 0, 0, 0, 0, 0, 0, 0, 0, 0⟩, 0, 0, pk0, false⟩
set_option maxRecDepth 20000 in
set_option maxHeartbeats 4000000 in
theorem junk_any (N p : Nat) (s : Ps) (v : Value) (xs : List Stp) (w : World) (h : Pm w p s) (hs : okS s) (hk : s.key ≠ 0) (hv : Sx N w v xs) (hN : N ≤ w.heap.size) (hp : N ≤ p) : Calls Try.prog 28 #[.pointer (some ⟨p, 0, none⟩), v] w fun e w' => e = .returned (.bool true) ∧ Pm w' p s ∧ w.grownBy w' (some p) := by
  obtain ⟨ao, cap, rfl, -⟩ := hv.ex
  obtain ⟨n, hn⟩ : ∃ n, n = xs.length := ⟨_, rfl⟩
  rw [← hn] at hv ⊢
  have HV : Hid (Sx N w (.slice ao n cap) xs ∧ n = xs.length ∧ N ≤ w.heap.size ∧ N ≤ p) := ⟨hv, hn, hN, hp⟩
  have HP : Hid (Pm w p s ∧ okS s ∧ s.key ≠ 0) := ⟨h, hs, hk⟩
  have hnb : (n : Int) ≤ 9223372036854775807 := by have := hv.len; omega
  clear hv hn hN hp h hs hk
  go_enter Try.func28, Try.ntmps28
  refine post_hid fun Q hQ => ?_
  go_wp2_with fail
  go_loopw [13] (fun i wr => ∃ (k : Nat), i = .int .i64 k ∧ (k : Int) ≤ n ∧ Hid (KW w wr p s [])) (fun i _ => n - (intOf i).toNat)
  case atStart => exact ⟨0, rfl, by omega, ⟨HP.out.1, HP.out.1.lt, ⟨rfl, rfl, rfl, Nat.le_refl _, fun _ _ _ => rfl⟩, fun b hb => by cases hb⟩⟩
  case round =>
    obtain ⟨k, rfl, hk, HK⟩ := hrel
    by_cases hlt : (k : Int) < n
    · have hkx : k < xs.length := by have := HV.out.2.1; omega
      obtain ⟨x, hx⟩ : ∃ x, xs[k]? = some x := ⟨_, List.getElem?_eq_getElem hkx⟩
      have hsx : Sx N wr (.slice ao n cap) xs := HV.out.1.below (B := N) ⟨HK.out.gr.os, HK.out.gr.tape, HK.out.gr.output, HK.out.gr.size, fun i hi => HK.out.gr.block i (by have := HV.out.2.2.1; omega) (fun e => by have := HV.out.2.2.2; injection e with e; omega)⟩ (Nat.le_refl _)
      obtain ⟨ad, hix, hab, hac⟩ := hsx.at k x hx
      have HC : Hid (∀ j u, (spC x)[j]? = some u → wr.cell? (ad.add j) = some u) := hac
      have HOx : Hid (okX x) := hsx.ok x (List.mem_of_getElem? hx)
      obtain ⟨V, hV⟩ : ∃ V, vdI s x.q false = V := ⟨_, rfl⟩
      have hf := forged_vd HP.out.2.2 x.q
      rw [hV] at hf
      have HH : Hid (∀ u, Pm u p s → Calls Try.prog 29 #[.pointer (some ⟨p, 0, none⟩), .agg (pkC x.q).toArray, .int .u64 x.t, .bool false] u fun e w' => e = .returned (.tuple #[.int .i64 V, .agg (smL sm0).toArray]) ∧ Pm w' p s ∧ u.grownBy w' (some p)) := fun u hu => by
        have q := hear_any p s x.q x.t false u hu HP.out.2.1 HOx.out.q
        rw [hV, forged_sm HP.out.2.2, forged_hr HP.out.2.2] at q
        exact q
      have v0 : (V == 0) = false := by simpa using hf.1
      have v6 : decide (6 ≤ V) = false := decide_eq_false (by omega)
      obtain ⟨t, ht⟩ : ∃ t, s.t = t := ⟨_, rfl⟩
      obtain ⟨wt, hwt⟩ : ∃ b, decide (s.req ≠ 0) = b := ⟨_, rfl⟩
      have HT : Hid (∀ u, Pm u p s → Calls Try.prog 19 #[.pointer (some ⟨p, 0, none⟩)] u fun e w' => e = .returned (.agg (tdL t).toArray) ∧ Below u.heap.size u w') := fun u hu => by rw [← ht]; exact told_any p s u hu
      have HWt : Hid (∀ u, Pm u p s → Calls Try.prog 20 #[.pointer (some ⟨p, 0, none⟩)] u fun e w' => e = .returned (.bool wt) ∧ w' = u) := fun u hu => by rw [← hwt]; exact waits_any p s u hu
      clear hac hab hx hkx hsx hV hf ht hwt
      go_wp2_with (first
        | (refine step_ldat 46 _ rfl rfl ad (by rfl) (spC x) _ Try.underlying46 rfl (by kernel_rfl) HC.out ?_)
        | (refine step_knew (by rfl) _ _ rfl (spC sp0) (spC x) (by rfl) (by rfl) HK.out (by kernel_rfl) rfl (spC_one _) ?_; intro w4 hk4; have HK4 : Hid _ := hk4; clear hk4)
        | (go_at_call 19; refine (HT.out _ HK4.out.pm).mono ?_; rintro e w5 ⟨rfl, hb5⟩; have HK5 : Hid _ := HK4.out.step hb5; clear hb5)
        | (go_at_call 20; refine (HWt.out _ HK5.out.pm).mono ?_; rintro e wq ⟨rfl, hwq⟩; rw [hwq]; clear hwq)
        | (refine step_knew (by rfl) _ _ rfl (tdL td0) (tdL t) (by rfl) (by rfl) HK5.out (by kernel_rfl) rfl (tdL_one _) ?_; intro w6 hk6; have HK6 : Hid _ := hk6; clear hk6; have x13 : w6.cell? ⟨wr.heap.size, 13, none⟩ = some (.int .u64 x.t) := (HK6.out.bl (wr.heap.size, spC x, 46) (by simp)).1.cell 13)
        | (refine step_ldat 44 _ rfl rfl ⟨wr.heap.size, 14, none⟩ (by rfl) (pkC x.q) _ Try.underlying44 rfl (by kernel_rfl) (Xb.pk (HK6.out.bl (wr.heap.size, spC x, 46) (by simp)).1) ?_)
        | (go_at_call 29; refine (HH.out _ HK6.out.pm).mono ?_; rintro e w7 ⟨rfl, hp7, hg7⟩; have HK7 : Hid _ := HK6.out.grown hp7 hg7; clear hp7 hg7)
        | (refine step_knew (by rfl) _ _ rfl (smL sm0) (smL sm0) (by rfl) (by rfl) HK7.out (by kernel_rfl) rfl (smL_one _) ?_; intro w8 hk8; have HK8 : Hid _ := hk8; clear hk8))
      obtain ⟨b5, hb5⟩ : ∃ b, w5.heap.size = b := ⟨_, rfl⟩
      obtain ⟨b7, hb7⟩ : ∃ b, w7.heap.size = b := ⟨_, rfl⟩
      rw [hb5, hb7] at HK8 ⊢
      clear hb5 hb7 HK7 HK6 HK5 HK4 x13 HC hix HH
      refine wp_region_grown (by kernel_rfl) (by kernel_rfl) ?_
      intro C hC hG
      have al : Hid (∀ u, C u → KW w u p s [(b7, smL sm0, 48), (b5, tdL t, 60), (wr.heap.size, spC x, 46)]) := fun u hu => HK8.out.step (hC u hu)
      have Z1 : Hid (∀ u, C u → Calls Try.prog 19 #[.pointer (some ⟨p, 0, none⟩)] u fun e w' => e = .returned (.agg (tdL t).toArray) ∧ C w') := fun u hu => (HT.out u (al.out u hu).pm).mono fun e w' ⟨h1, h2⟩ => ⟨h1, hG u w' hu h2⟩
      have Z2 : Hid (∀ u, C u → Calls Try.prog 20 #[.pointer (some ⟨p, 0, none⟩)] u fun e w' => e = .returned (.bool wt) ∧ C w') := fun u hu => (HWt.out u (al.out u hu).pm).mono fun e w' ⟨h1, h2⟩ => ⟨h1, by rw [h2]; exact hu⟩
      refine QW.out ?_
      repeat (first
        | (refine qa_ldW (by rfl) 48 _ rfl ⟨b7, 0, none⟩ (by rfl) (smL sm0) _ Try.underlying48 rfl (by kernel_rfl) (fun u hu => (al.out u hu).at b7 (smL sm0) 48 (by simp)) ?_; try go_simp)
        | (refine qa_ldW (by rfl) 60 _ rfl ⟨b5, 0, none⟩ (by rfl) (tdL t) _ Try.underlying60 rfl (by kernel_rfl) (fun u hu => (al.out u hu).at b5 (tdL t) 60 (by simp)) ?_; try go_simp)
        | (refine qa_valW (by rfl) ⟨_, fun u hu => ne_td t _ _ _ _ rfl (by rfl) (by rfl) u, ?_⟩; try go_simp)
        | (refine qa_valW (by rfl) ⟨_, fun u hu => ne_sm sm0 _ _ _ _ rfl (by rfl) (by rfl) u, ?_⟩; try go_simp)
        | (refine qa_valW (by rfl) ?_; apply Exists.intro; refine ⟨fun u hu => ?_, ?_⟩; (go_simp; exact rfl); try go_simp)
        | (refine qa_callW (by rfl) 19 _ _ ?_ (fun u hu => Z1.out u hu) ?_; (focus (intro u hu; go_simp; first | done | exact rfl)); try go_simp)
        | (refine qa_callW (by rfl) 20 _ _ ?_ (fun u hu => Z2.out u hu) ?_; (focus (intro u hu; go_simp; first | done | exact rfl)); try go_simp))
      refine qw_nil ?_
      intro u hu
      have HK9 : Hid (KW w u p s []) := ⟨(HK8.out.step hu).pm, HK8.out.lp, (HK8.out.step hu).gr, fun b hb => by cases hb⟩
      clear al Z1 Z2 hC hG hu HK8
      go_wp2_with fail
      go_roundw
      case rel => exact ⟨k + 1, by go_num, by omega, HK9⟩
      case measure => simp [intOf]; omega
    · go_wp2_with fail
      rw [hQ.out]
      go_ret
      exact ⟨rfl, HK.out.pm, HK.out.gr⟩
end Go.Proofs.Ytlggademcmkihaa
