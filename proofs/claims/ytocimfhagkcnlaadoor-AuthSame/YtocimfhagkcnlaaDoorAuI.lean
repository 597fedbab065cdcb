/- Auth: a key read out of words. -/
import Derived.Test.YtocimfhagkcnlaaDoorAuF
import Derived.Test.YtocimfhagkcnlaaDoorAN
import Derived.Test.YtocimfhagkcnlaaDoorGE
import Derived.Deep.RegionHeldLaw
namespace Go.Proofs.YtocimfhagkcnlaaDoor
open Go Go.RowKit Go.Sort
set_option linter.unusedVariables false
theorem results_ct {fn : Func} {p u : Tmp} {ty : TypeId} (h : fn.results = #[.cell p ty, .tmp u]) (tmps : Array Value) (w : World) (g : Nat) (t : TypeId) (cs : List Value) (d : TypeDesc) (x : Value)
    (hx : tmps.getD u undef = x) (hp : tmps.getD p undef = .pointer (some ⟨g, 0, none⟩)) (hg : w.heap[g]? = some (.cells cs.toArray t (0, 0)))
    (hu : Tryd.prog.underlying ty = some d) (hd : d.isRow = true) (hi : (Tryd.prog.info? ty).map (·.size) = some cs.length) :
    (results fn tmps).run Tryd.prog w = .ok (.tuple #[.agg cs.toArray, x]) w := by
  have hp' : tmps[p]?.getD undef = .pointer (some ⟨g, 0, none⟩) := by simpa using hp
  have hx' : tmps[u]?.getD undef = x := by simpa using hx
  simp [results, h, hp', hx', asAddr, run_loadVar_at w ⟨g, 0, none⟩ ty cs d (cells_of hg) hu hd hi]
/-- a call of a function by its name with one argument -/
theorem wp_callF {o : Oper} {a : Act} {w : World} {K : Act → World → Prop} {Q : Exit → Act → World → Prop} (f : FuncId) (x : Operand) (t : TypeId) (ho : o.op = .call { callee := .value (.func f), args := #[x], argTypes := #[t] }) (v : Value) (hx : a.eval x = v) (he : (callFunc f #[v]).run Tryd.prog w = .ok (.enter f #[v]) w) (hc : Calls Tryd.prog f #[v] w fun e w' => ∃ u, e = .returned u ∧ K (a.put o.dst u) w') : Oper.wp Tryd.prog o a w K Q := by
  refine wp_enter f #[v] ?_ hc
  have e : (execOp a.eval o).run Tryd.prog w = (callFunc f #[a.eval x]).run Tryd.prog w := by unfold execOp; simp [ho, go_sem]
  rw [e, hx]
  exact he
/-- what a line's words come to -/
def KyR (I K : Int) (ok : Bool) (X : Option (List Int)) (w : World) (B : Nat) (k : Kx) (e : Int) : Prop := if ok = true then ∃ l, X = some l ∧ k.id = I ∧ k.kd = K ∧ k.n = l.length ∧ e = ckK I K l.length ∧ Own w B (.slice k.ao k.n k.cap) l ∧ okb l else k = zKx ∧ e = 21
/-- words in memory -/
def Wx (w : World) (A : Nat) (ts : List ByteArray) : Prop := A < w.heap.size ∧ ∀ i t, ts[i]? = some t → w.cell? ⟨A, i, none⟩ = some (.string t)
theorem Wx.below {B : Nat} {w w' : World} {A : Nat} {ts : List ByteArray} (h : Wx w A ts) (hb : Below B w w') (hA : A < B) : Wx w' A ts := ⟨Nat.lt_of_lt_of_le h.1 hb.size, fun i t ht => (hb.cell (p := ⟨A, i, none⟩) hA).trans (h.2 i t ht)⟩
set_option maxRecDepth 20000 in
set_option maxHeartbeats 2000000 in
theorem readKey_any (A c : Nat) (s0 s1 s2 : ByteArray) (w : World) (h : Wx w A [s0, s1, s2]) (hl : s0.size ≤ 1000000 ∧ s2.size ≤ 1000000) : Calls Tryd.prog 48 #[.slice (some ⟨A, 0, none⟩) 3 c] w fun e w' => ∃ k e', e = .returned (.tuple #[.agg (kxL k).toArray, .int .i64 e']) ∧ Hid (KyR (idV (idE 0 s0.data.toList)) (rkK s1).1 ((idE 0 s0.data.toList).isSome && (rkK s1).2 && (rdB s2.data.toList).isSome) (rdB s2.data.toList) w' w.heap.size k e') ∧ Hid (Below w.heap.size w w') := by
  obtain ⟨I, hI⟩ : ∃ I, idV (idE 0 s0.data.toList) = I := ⟨_, rfl⟩
  obtain ⟨b1, hb1⟩ : ∃ I, (idE 0 s0.data.toList).isSome = I := ⟨_, rfl⟩
  obtain ⟨K, hK⟩ : ∃ I, (rkK s1).1 = I := ⟨_, rfl⟩
  obtain ⟨b2, hb2⟩ : ∃ I, (rkK s1).2 = I := ⟨_, rfl⟩
  obtain ⟨X, hX⟩ : ∃ X, rdB s2.data.toList = X := ⟨_, rfl⟩
  obtain ⟨b3, hb3⟩ : ∃ I, X.isSome = I := ⟨_, rfl⟩
  have C1 : Hid (∀ u, Calls Tryd.prog 70 #[.string s0] u fun e w' => e = .returned (.tuple #[.int .i64 I, .bool b1]) ∧ Below u.heap.size u w') := fun u => by rw [← hI, ← hb1]; exact readID_any s0 u hl.1
  have C2 : Hid (∀ u, Calls Tryd.prog 71 #[.string s1] u fun e w' => e = .returned (.tuple #[.int .i64 K, .bool b2]) ∧ w' = u) := fun u => by rw [← hK, ← hb2]; exact readKind_any s1 u
  have C3 : Hid (∀ u, Calls Tryd.prog 72 #[.string s2] u fun e w' => ∃ v', e = .returned (.tuple #[v', .bool b3]) ∧ Hid (RdO X w' u.heap.size v') ∧ Hid (Below u.heap.size u w')) := fun u => by rw [← hb3, ← hX]; exact readBytes_any s2 u hl.2
  have HX3 : Hid (X.isSome = b3) := hb3
  have HW : Hid (Wx w A [s0, s1, s2]) := h
  have HWr : Hid (∀ u, Below w.heap.size w u → Wx u A [s0, s1, s2]) := fun u hu => HW.out.below hu HW.out.1
  rw [hI, hb1, hK, hb2, hX, hb3]
  clear h hl hI hb1 hK hb2 hX hb3
  go_enter Tryd.func48, Tryd.ntmps48
  refine post_hid fun Q hQ => ?_
  go_upto_region 1 with (refine step_alL (by rfl) 33 rfl (kxL zKx).toArray (fun u => by kernel_rfl) ?_; intro w1 gr H1)
  have HA : Hid (Below w.heap.size w w1 ∧ Bk gr w1 (kxL zKx).toArray 33 ∧ w.heap.size ≤ gr) := ⟨H1.out.be, H1.out.bk, by have := H1.out.at'; omega⟩
  have q0 : w1.cell? ⟨A, 0, none⟩ = some (.string s0) := (HWr.out w1 HA.out.1).2 0 _ rfl
  clear H1
  go_upto_region 6 with (first
    | (go_at_call 70; refine (C1.out _).mono ?_; rintro e w2 ⟨rfl, hb2'⟩; have B2 : Hid (Below w1.heap.size w1 w2) := hb2'; have q1 : w2.cell? ⟨A, 1, none⟩ = some (.string s1) := (HWr.out w2 (below_thru' HA.out.1 hb2')).2 1 _ rfl; have q2 : w2.cell? ⟨A, 2, none⟩ = some (.string s2) := (HWr.out w2 (below_thru' HA.out.1 hb2')).2 2 _ rfl; clear hb2')
    | (go_at_call 71; refine (C2.out _).mono ?_; rintro e w3 ⟨rfl, rfl⟩)
    | (go_at_call 72; refine (C3.out _).mono ?_; rintro e w4 ⟨vb, rfl, hR, hb4⟩; have B4 : Hid (Below w1.heap.size w1 w4) := below_thru' B2.out hb4.out))
  have HB : Hid (Below w.heap.size w w4 ∧ Bk gr w4 (kxL zKx).toArray 33 ∧ RdO X w4 w3.heap.size vb ∧ gr < w3.heap.size ∧ w.heap.size ≤ w3.heap.size) := by
    refine ⟨below_thru' HA.out.1 B4.out, HA.out.2.1.kept (B4.out.block _ HA.out.2.1.lt), hR.out, Nat.lt_of_lt_of_le HA.out.2.1.lt B2.out.size, Nat.le_trans HA.out.1.size B2.out.size⟩
  clear hR hb4 B4 B2 q0 q1 q2 C1 C2 C3 HW HWr
  by_cases hall : b1 = true ∧ b2 = true ∧ b3 = true
  · obtain ⟨rfl, rfl, rfl⟩ := hall
    obtain ⟨l, hl⟩ : ∃ l, X = some l := Option.isSome_iff_exists.1 HX3.out
    have HO : Hid (Own w4 w3.heap.size vb l ∧ okb l) := by have := HB.out.2.2.1; rw [hl] at this; exact this
    obtain ⟨bo, bc, hvb, _⟩ := HO.out.1.rs
    obtain ⟨n, hn⟩ : ∃ n, l.length = n := ⟨_, rfl⟩
    rw [hn] at hvb
    subst hvb
    have HX : Hid (X = some l ∧ l.length = n) := ⟨hl, hn⟩
    clear hl hn
    obtain ⟨kx, hkx⟩ : ∃ kx : Kx, kx = ⟨I, K, bo, n, bc⟩ := ⟨_, rfl⟩
    have hkl : kxL kx = [.int .i64 I, .int .i64 K, .slice bo n bc] := by rw [hkx]; rfl
    have HC : Hid (∀ u, Calls Tryd.prog 19 #[.agg (kxL kx).toArray] u fun e w' => e = .returned (.int .i64 (ckK I K n)) ∧ Below u.heap.size u w') := fun u => by rw [hkl]; exact checkKey_any I K bo n bc u
    obtain ⟨EE, hEE⟩ : ∃ E, ckK I K n = E := ⟨_, rfl⟩
    have HEE : Hid (ckK I K n = EE) := hEE
    rw [hEE] at HC
    clear hEE
    go_upto_region 9 with (first
      | (refine step_alL (by rfl) 33 rfl (kxL zKx).toArray (fun u => by kernel_rfl) ?_; intro w5 gk H5)
      | (refine step_stL (by rfl) _ _ rfl gk (kxL kx).toArray (by rfl) (by rw [hkl]; rfl) (kxL zKx).toArray (by rw [hkl]; kernel_rfl) (by rw [hkl]; rfl) (kx_one kx) H5.out.bk ?_; intro w6 H6))
    have HF : Hid (Below w.heap.size w w6 ∧ Bk gr w6 (kxL zKx).toArray 33 ∧ Bk gk w6 (kxL kx).toArray 33 ∧ Own w6 w3.heap.size (.slice bo n bc) l ∧ gr ≠ gk) := by
      have hb := H6.out.below H5.out.be H5.out.be.size (Nat.le_of_eq H5.out.at'.symm)
      have h1 := H5.out.at'
      have h2 := HB.out.2.1.lt
      exact ⟨below_thru' HB.out.1 hb, HB.out.2.1.kept (hb.block _ HB.out.2.1.lt), H6.out.bk, HO.out.1.below hb (Nat.le_refl _), by omega⟩
    clear H5 H6
    have ik : (Tryd.prog.info? 33).map (·.size) = some (kxL kx).length := by rw [hkl]; kernel_rfl
    have uK := Tryd.underlying33
    have hrg : ∀ u, Bk gk u (kxL kx).toArray 33 → u.rangeAt gk 0 (kxL kx) := fun u hu j v hv => by rw [Nat.zero_add, hu.cell, List.getElem?_toArray]; exact hv
    refine wp_region_noPanic ?_
    refine wp_region_held_drew (S := fun w' => w'.rangeAt gk 0 (kxL kx)) (by kernel_rfl) (hrg w6 HF.out.2.2.1) (fun hHeld => ?_)
    refine wpAnyH_takeD (some 51) (i := 0) (v := .agg (kxL kx).toArray) rfl (by kernel_rfl) (by kernel_rfl) (by kernel_rfl) (fun _ _ _ h => h) (yieldsIf_load_mid (by rfl) 33 (.tmp 10) rfl gk 0 rfl _ _ (fun _ h => h) uK rfl ik) (by assumption) rfl ?_
    simp only [Act.put, List.setIfInBounds_toArray, List.set_cons_zero, List.set_cons_succ]
    refine wpAnyH_takeD (some 52) (i := 1) (v := .agg (kxL kx).toArray) rfl (by kernel_rfl) (by kernel_rfl) (by kernel_rfl) (fun _ _ _ h => h) (yieldsIf_load_mid (by rfl) 33 (.tmp 10) rfl gk 0 rfl _ _ (fun _ h => h) uK rfl ik) (by assumption) rfl ?_
    simp only [Act.put, List.setIfInBounds_toArray, List.set_cons_zero, List.set_cons_succ]
    refine wpAnyH_ready (rs := [2]) (by kernel_rfl) (by simp) ?_
    refine AllReadyH.cons rfl (fun Kz hKz => ?_) AllReadyH.nil
    rw [if_pos (by rfl)]
    refine wp_callF 19 (.tmp 52) 33 rfl (.agg (kxL kx).toArray) (by rfl) (by rfl) ?_
    refine (HC.out _).mono ?_
    rintro _ w7 ⟨rfl, hw7⟩
    refine ⟨_, rfl, ?_⟩
    have H7 : Hid (Below w.heap.size w w7 ∧ Bk gr w7 (kxL zKx).toArray 33 ∧ Bk gk w7 (kxL kx).toArray 33 ∧ Own w7 w3.heap.size (.slice bo n bc) l) := by
      have hb : Below w6.heap.size w6 w7 := ⟨hw7.os, hw7.tape, hw7.output, hw7.size, hw7.block⟩
      exact ⟨below_thru' HF.out.1 hb, HF.out.2.1.kept (hb.block _ HF.out.2.1.lt), HF.out.2.2.1.kept (hb.block _ HF.out.2.2.1.lt), HF.out.2.2.2.1.below hb (Nat.le_refl _)⟩
    clear hw7
    refine hKz.out _ _ (hrg w7 H7.out.2.2.1) (fun hHeld => ?_)
    clear hKz Kz
    refine wpAnyH_ready (rs := [3]) (by kernel_rfl) (by simp) ?_
    refine AllReadyH.cons rfl (fun Kz hKz => ?_) AllReadyH.nil
    rw [if_pos (by rfl)]
    refine wp_store_row _ _ _ rfl gr (kxL kx).toArray (by rfl) (by rfl) _ _ H7.out.2.1 (by rw [hkl]; kernel_rfl) (by rw [hkl]; rfl) (kx_one kx) ?_
    have H8 : Hid (Below w.heap.size w (w7.setRow gr (kxL kx).toArray) ∧ Bk gr (w7.setRow gr (kxL kx).toArray) (kxL kx).toArray 33 ∧ Bk gk (w7.setRow gr (kxL kx).toArray) (kxL kx).toArray 33 ∧ Own (w7.setRow gr (kxL kx).toArray) w3.heap.size (.slice bo n bc) l) := by
      have hg := grownBy_row w7 gr (kxL kx).toArray
      refine ⟨H7.out.1.grown hg H7.out.1.size (fun k hk => by injection hk with hk; have := HA.out.2.2; omega), H7.out.2.1.row _, H7.out.2.2.1.kept (hg.block _ H7.out.2.2.1.lt (fun e => HF.out.2.2.2.2 (Option.some.inj e).symm)), ?_⟩
      exact World.ownsRow.kept H7.out.2.2.2 hg (.inr fun e => by have h1 := own_lt' H7.out.2.2.2 gr e; have h2 := HB.out.2.2.2.1; omega)
    refine hKz.out _ _ (hrg _ H8.out.2.2.1) (fun hHeld => ?_)
    clear hKz Kz
    refine wpAnyH_takeD (some 3) (i := 4) (v := .int .i64 EE) rfl (by kernel_rfl) (by kernel_rfl) (by kernel_rfl) (fun _ _ _ h => h) (Or.inl ⟨by rfl, fun _ _ => rfl⟩) (by assumption) rfl ?_
    refine wpAnyH_done (by kernel_rfl) ?_ _
    refine NoPanic.normal ?_
    go_wp2_with fail
    rw [hQ.out]
    refine bodyPost_ret (v := .tuple #[.agg (kxL kx).toArray, .int .i64 EE]) (results_ct Tryd.results48 _ _ gr _ (kxL kx) _ _ (by rfl) (by rfl) H8.out.2.1 Tryd.underlying33 rfl ik) rfl ⟨kx, EE, rfl, ?_, H8.out.1⟩
    show KyR _ _ _ _ _ _ _ _
    unfold KyR
    rw [if_pos (by rfl)]
    refine ⟨l, HX.out.1, by rw [hkx], by rw [hkx], by rw [hkx, HX.out.2], by rw [← HEE.out, HX.out.2], ?_, HO.out.2⟩
    have e : Value.slice kx.ao kx.n kx.cap = .slice bo n bc := by rw [hkx]
    rw [e]
    exact H8.out.2.2.2.mono HB.out.2.2.2.2
  · have HE : Hid (KyR I K (b1 && b2 && b3) X = fun _ _ k e => k = zKx ∧ e = 21) := by
      show _ = _
      have : (b1 && b2 && b3) = false := by cases b1 <;> cases b2 <;> cases b3 <;> simp_all
      rw [this]
      funext _ _ k e
      unfold KyR
      simp
    rcases b1 <;> rcases b2 <;> rcases b3 <;> first | exact absurd ⟨rfl, rfl, rfl⟩ hall | skip
    all_goals
      clear hall
      go_wp2_with (refine step_stL (by rfl) _ _ rfl gr (kxL zKx).toArray (by rfl) (by rfl) (kxL zKx).toArray (by kernel_rfl) (by kernel_rfl) (by kernel_rfl) HB.out.2.1 ?_; intro wz HZz)
      rw [hQ.out]
      refine bodyPost_ret (v := .tuple #[.agg (kxL zKx).toArray, .int .i64 21]) (results_ct Tryd.results48 _ _ gr _ (kxL zKx) _ _ (by rfl) (by rfl) HZz.out.bk Tryd.underlying33 rfl (by kernel_rfl)) rfl ⟨zKx, 21, rfl, ?_, HZz.out.below HB.out.1 HB.out.1.size HA.out.2.2⟩
      rw [HE.out]
      exact ⟨rfl, rfl⟩
end Go.Proofs.YtocimfhagkcnlaaDoor
