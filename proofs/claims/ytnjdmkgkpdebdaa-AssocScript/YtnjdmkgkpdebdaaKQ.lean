/- assoc: the examples. -/
import Derived.Test.YtnjdmkgkpdebdaaKP
namespace Go.Proofs.Ytnjdmkgkpdebdaa
open Go Go.RowKit Go.Sort
set_option linter.unusedVariables false
theorem Rch.by_last {T : List (Option Mb)} {S : Nat → Prop} {i : Nat} (r : Rch T S i) : (∃ m, at0 T i = some m ∧ S i) ∨ (∃ (j : Nat) (m : Mb), at0 T i = some m ∧ m.par = (j : Int) + 1 ∧ Rch T S j) := by
  refine r (fun i => (∃ m, at0 T i = some m ∧ S i) ∨ (∃ (j : Nat) (m : Mb), at0 T i = some m ∧ m.par = (j : Int) + 1 ∧ Rch T S j)) (fun i m h1 h2 => .inl ⟨m, h1, h2⟩) (fun i j m h1 h2 ih => .inr ⟨j, m, h1, h2, ?_⟩)
  rcases ih with ⟨m', k1, k2⟩ | ⟨j', m', k1, k2, k3⟩
  · exact Rch.base j m' k1 k2
  · exact Rch.step j j' m' k1 k2 k3
theorem SpS.none {T T' : List (Option Mb)} {S : Nat → Prop} (h : SpS T S T') (hS : ∀ i, ¬ S i) : ∀ i, at0 T' i = at0 T i := by
  have hR : ∀ i, ¬ Rch T S i := fun i r => r (fun _ => False) (fun i m h1 h2 => hS i h2) (fun i j m h1 h2 ih => ih)
  intro i
  rcases h.sub i with e | e
  · exact e
  · cases hm : at0 T i with
    | none => exact e
    | some m => exact absurd (h.snd i m hm e) (hR i)
theorem at0_ext {T T' : List (Option Mb)} (hl : T'.length = T.length) (h : ∀ i, at0 T' i = at0 T i) : T' = T := by
  refine List.ext_getElem hl fun i h1 h2 => ?_
  have := h i
  unfold at0 at this
  simpa [List.getD_eq_getElem?_getD, h1, h2] using this
theorem gn_same : ∀ (T : List (Option Mb)) (k : Nat), gnF T T k = []
  | [], _ => rfl
  | none :: t, k => by rw [gnF]; exact gn_same t (k + 1)
  | some _ :: t, k => by rw [gnF]; exact gn_same t (k + 1)
def exA1 : As := ⟨1, 5, 0, 0, 0, false, false, false, 0, false, 0, 0⟩
def exA2 : As := ⟨6, 5, 0, 0, 0, false, false, false, 0, false, 0, 0⟩
def exA3 : As := ⟨7, 7, 0, 0, 0, false, false, false, 0, false, 0, 0⟩
def exT (bs : Nat → Nat) (b : Nat) : List (Option Mb) := [some ⟨bs 0, 1, exA1, 0, 0, 0⟩, some ⟨bs 1, 2, exA2, 0, 0, 0⟩, some ⟨b, 3, exA3, 0, 4196, 0⟩, none, none, none, none, none, none, none, none, none, none, none, none, none]
theorem ex_fr (bs : Nat → Nat) : frF (tbL [exA1, exA2] bs) 0 = 3 := by kernel_rfl
theorem ex_kn (bs : Nat → Nat) : knB (tbL [exA1, exA2] bs) exA3 = false := by rw [kn_tb _ _ _ (by decide)]; decide
theorem ex_ad (bs : Nat → Nat) : adE (tbL [exA1, exA2] bs) exA3 0 = 0 := by
  unfold adE
  rw [if_neg (by simp), ex_kn, if_neg (by decide), ex_fr, if_neg (by decide)]
theorem ex_an (bs : Nat → Nat) : adN (tbL [exA1, exA2] bs) exA3 0 = 3 := by unfold adN; rw [ex_ad, if_pos rfl, ex_fr]
theorem ex_at (bs : Nat → Nat) (b : Nat) : adT (tbL [exA1, exA2] bs) exA3 0 100 b = exT bs b := by
  unfold adT adM
  rw [ex_ad, if_pos rfl, ex_fr]
  rfl
theorem ex_ge (bs : Nat → Nat) (b : Nat) : geM (exT bs b) 3 = ⟨b, 3, exA3, 0, 4196, 0⟩ ∧ (atM (exT bs b) 3).isSome = true := ⟨rfl, rfl⟩
theorem ex_no (bs : Nat → Nat) (b : Nat) : ∀ i, ¬ exS (exT bs b) 4195 i := by
  rintro i ⟨m, hm, h0, h1⟩
  have hm := at0_some.1 hm
  rcases (show i = 0 ∨ i = 1 ∨ i = 2 ∨ i = 3 ∨ i = 4 ∨ i = 5 ∨ i = 6 ∨ i = 7 ∨ i = 8 ∨ i = 9 ∨ i = 10 ∨ i = 11 ∨ i = 12 ∨ i = 13 ∨ i = 14 ∨ i = 15 ∨ 16 ≤ i by omega) with rfl | rfl | rfl | rfl | rfl | rfl | rfl | rfl | rfl | rfl | rfl | rfl | rfl | rfl | rfl | rfl | h
  all_goals first
    | (rw [List.getElem?_eq_none (by simpa [exT] using h)] at hm; cases hm; done)
    | (simp [exT] at hm; done)
    | (simp [exT] at hm; subst hm; simp at h0; done)
    | (simp [exT] at hm; subst hm; simp at h1; done)
theorem ex_rt (bs : Nat → Nat) (b : Nat) : rtA (exT bs b) false false false 4 5 1 (bits .and .i64 0 1) (bits .and .i64 0 8) (bits .and .i64 0 16) = 2 ∧ rtI (exT bs b) false 4 5 (bits .and .i64 0 8) (bits .and .i64 0 16) = 1 := by
  have h : rtN (exT bs b) 4 5 = 2 := by rfl
  unfold rtA rtI
  rw [h]
  exact ⟨rfl, rfl⟩
theorem ex_kw (bs : Nat → Nat) (b : Nat) : kWf (exT bs b) := by
  intro i m hm
  rcases (show i = 0 ∨ i = 1 ∨ i = 2 ∨ i = 3 ∨ i = 4 ∨ i = 5 ∨ i = 6 ∨ i = 7 ∨ i = 8 ∨ i = 9 ∨ i = 10 ∨ i = 11 ∨ i = 12 ∨ i = 13 ∨ i = 14 ∨ i = 15 ∨ 16 ≤ i by omega) with rfl | rfl | rfl | rfl | rfl | rfl | rfl | rfl | rfl | rfl | rfl | rfl | rfl | rfl | rfl | rfl | h
  all_goals first
    | (rw [List.getElem?_eq_none (by simpa [exT] using h)] at hm; cases hm; done)
    | (simp [exT] at hm; done)
    | (simp [exT] at hm; subst hm; rfl)
theorem or_len0 {w : World} {B : Nat} {e : TypeId} {k : Nat} {v : Value} (h : OR w B e k v []) : ∃ ao cap, v = .slice ao 0 cap := by
  rcases h.row.2 with ⟨h1, _⟩ | ⟨g, cap, cur, h1, _⟩
  · exact ⟨_, _, h1⟩
  · exact ⟨_, _, h1⟩
def cf0 (v : Value) : List Value := [v, .slice none 0 0, .slice none 0 0, .int .i64 0, .slice none 0 0, .string ByteArray.empty, .slice none 0 0, .int .i64 0, .bool false, .bool false, .int .i64 0, .int .i64 0, .int .i64 0, .int .i64 0, .int .i64 0]
theorem cf0_cf (v : Value) : Cf (cf0 v) v false false := ⟨rfl, rfl, rfl, rfl⟩
def pk0 : List Value := [.int .i64 0, .int .i64 0, .int .i64 4, .int .i64 0, .int .i64 0, .int .i64 0, .int .i64 0, .int .i64 0, .int .u32 0, .int .u64 0, .int .u64 0, .int .u64 0, .int .u64 0, .slice none 0 0, .int .i64 0, .bool false, .slice none 0 0]
theorem pk0_pf : Pf pk0 4 0 0 := ⟨rfl, rfl, rfl, rfl⟩
theorem run_cf (g : Nat) (u : World) : (Instr.build 29 #[(0, .slice (some ⟨g, 0, none⟩) 2 2)]).run Try.prog u = .ok (.agg (cf0 (.slice (some ⟨g, 0, none⟩) 2 2)).toArray) u := by kernel_rfl
theorem run_cfz (u : World) : (Instr.build 29 #[]).run Try.prog u = .ok (.agg (cf0 (.slice none 0 0)).toArray) u := by kernel_rfl
theorem run_pk (u : World) : (Instr.build 47 #[(2, .int .i64 4)]).run Try.prog u = .ok (.agg pk0.toArray) u := by kernel_rfl
theorem run_as (k a : Int) (u : World) : (Instr.build 41 #[(0, .int .i64 k), (1, .int .u32 a)]).run Try.prog u = .ok (.agg (asL ⟨k, a, 0, 0, 0, false, false, false, 0, false, 0, 0⟩).toArray) u := by kernel_rfl
set_option maxRecDepth 20000 in
theorem run_bs2 (u : World) : (Instr.buildSlice 22 2 #[(0, .agg (asL exA1).toArray), (1, .agg (asL exA2).toArray)]).run Try.prog u = .ok (.slice (some ⟨u.heap.size, 0, none⟩) 2 2) (u.alloc (.cells (asL exA1 ++ asL exA2).toArray 41)) := by
  kernel_rfl
theorem step_bs2 {ops : Array Oper} {rest : List Oper} {o : Oper} {a : Act} {w : World} {Q : Exit → Act → World → Prop} (hw : Region.wanted o (yielded ops a.tmps) = true) (x y : Operand) (ho : o.op = .buildSlice 22 2 #[(0, x), (1, y)]) (hx : a.eval x = .agg (asL exA1).toArray) (hy : a.eval y = .agg (asL exA2).toArray)
    (h : ∀ W g, Hid (Nw w W g (asL exA1 ++ asL exA2).toArray 41) → wpList Try.prog ops Q rest (a.put o.dst (.slice (some ⟨g, 0, none⟩) 2 2)) W) : wpList Try.prog ops Q (o :: rest) a w :=
  wpList_step fun K hK => by
    rw [if_pos hw]
    unfold Oper.wp execOp
    simp only [ho, List.map_toArray, List.map_cons, List.map_nil, hx, hy, Sem.run_bind, Sem.run_pure, run_bs2 w, Result.andThen_ok]
    exact hK _ _ (h _ _ (Nw.mk' w _ _))
theorem rk2 {w W : World} {g : Nat} (h : Nw w W g (asL exA1 ++ asL exA2).toArray 41) : Rk W.heap.size W 12 (.slice (some ⟨g, 0, none⟩) 2 2) ([exA1, exA2].map asL) := by
  refine ⟨some ⟨g, 0, none⟩, 2, rfl, Nat.le_refl _, fun i hi => ⟨_, rfl, h.bk.lt, fun j u hu => ?_⟩⟩
  rw [add_own, h.bk.cell, List.getElem?_toArray]
  have hi : i < 2 := hi
  have hj : j < 12 := by
    rcases Nat.lt_or_ge j 12 with h | h
    · exact h
    · rw [List.getElem?_eq_none] at hu
      · cases hu
      · rcases (show i = 0 ∨ i = 1 by omega) with rfl | rfl <;> exact h
  rcases (show i = 0 ∨ i = 1 by omega) with rfl | rfl
  · rw [List.getElem?_append_left (by simpa [asL] using hj)]
    simpa using hu
  · rw [List.getElem?_append_right (by simp [asL])]
    have : 1 * 12 + j - (asL exA1).length = j := by simp [asL]
    rw [this]
    exact hu
theorem nw_ex : nwE [exA1, exA2] = 0 := by decide
set_option maxRecDepth 20000 in
set_option maxHeartbeats 2000000 in
theorem shown_any (w : World) : Calls Try.prog 7 #[] w fun e w' => e = .returned (.bool true) ∧ Below w.heap.size w w' := by
  go_enter Try.func7, Try.ntmps7
  refine post_hid fun Q hQ => ?_
  go_upto_region 2 with (first
    | (refine step_bdL (by rfl) 41 [(0, .const (.int .i64 1)), (1, .const (.int .u32 5))] rfl [(0, .int .i64 1), (1, .int .u32 5)] (by rfl) (.agg (asL exA1).toArray) (run_as 1 5 _) ?_)
    | (refine step_bdL (by rfl) 41 [(0, .const (.int .i64 6)), (1, .const (.int .u32 5))] rfl [(0, .int .i64 6), (1, .int .u32 5)] (by rfl) (.agg (asL exA2).toArray) (run_as 6 5 _) ?_)
    | (refine step_bs2 (by rfl) _ _ rfl (by rfl) (by rfl) ?_; intro W1 g1 H1)
    | (refine step_bdL (by rfl) 29 [(0, .tmp 12)] rfl [(0, .slice (some ⟨g1, 0, none⟩) 2 2)] (by rfl) (.agg (cf0 (.slice (some ⟨g1, 0, none⟩) 2 2)).toArray) (run_cf g1 _) ?_)
    | (go_at_call 8; refine (new_any (cf0 (.slice (some ⟨g1, 0, none⟩) 2 2)) _ false false [exA1, exA2] W1 (cf0_cf _) (rk2 H1.out)).mono ?_; rintro e w2 ⟨h2, hb2⟩; rcases h2 with ⟨h2, _⟩ | ⟨_, q, bs, rfl, h2⟩; (exact absurd nw_ex h2); have H2 : Hid (Nr W1 w2 q (tbL [exA1, exA2] bs)) := h2; clear h2 hb2))
  have H2b : Hid (Below w.heap.size w w2 ∧ w.heap.size ≤ q) := ⟨below_thru H1.out.be H2.out.be, Nat.le_trans H1.out.be.size H2.out.hq⟩
  clear H1
  go_upto_region 5 with (first
    | (refine step_bdL (by rfl) 41 [(0, .const (.int .i64 7)), (1, .const (.int .u32 7))] rfl [(0, .int .i64 7), (1, .int .u32 7)] (by rfl) (.agg (asL exA3).toArray) (run_as 7 7 _) ?_)
    | (go_at_call 15; refine (add_any q _ exA3 0 100 w2 H2.out.tb (by decide)).mono ?_; rintro e w3 ⟨b, rfl, h3, h4, h5⟩; rw [ex_an, ex_ad]; rw [ex_at] at h3; have H3 : Hid (Tb w3 q (exT bs b) ∧ w2.grownBy w3 (some q)) := ⟨h3, h4⟩; clear h3 h4 h5))
  have H3b : Hid (Below w.heap.size w w3 ∧ w.heap.size ≤ q) := by
    have hq := H2b.out.2
    have g := H3.out.2
    exact ⟨H2b.out.1.trans ⟨g.os, g.tape, g.output, g.size, fun k hk => g.block k (Nat.lt_of_lt_of_le hk H2b.out.1.size) (fun e => by injection e with e; omega)⟩, hq⟩
  clear H2 H2b
  have HG : Hid (Calls Try.prog 18 #[.pointer (some ⟨q, 0, none⟩), .int .i64 3] w3 fun e w' => e = .returned (.tuple #[.agg (enL ⟨b, 3, exA3, 0, 4196, 0⟩).toArray, .bool true]) ∧ Below w3.heap.size w3 w') := by
    have := get_any q (exT bs b) 3 w3 H3.out.1
    rw [(ex_ge bs b).1, (ex_ge bs b).2] at this
    exact this
  go_upto_region 6 with (first
    | (go_at_call 18; refine HG.out.mono ?_; rintro e w4 ⟨rfl, hb4⟩; have H4 : Hid (Below w3.heap.size w3 w4) := hb4; clear hb4)
    | (refine step_alL (by rfl) 62 rfl (enL zMb).toArray (fun u => by kernel_rfl) ?_; intro w5 g H5)
    | (refine step_stL (by rfl) _ _ rfl g (enL ⟨b, 3, exA3, 0, 4196, 0⟩).toArray (by rfl) (by rfl) (enL zMb).toArray (by kernel_rfl) (by kernel_rfl) (by kernel_rfl) H5.out.bk ?_; intro w6 H6))
  have H7 : Hid (Below w3.heap.size w3 w6 ∧ Bk g w6 (enL ⟨b, 3, exA3, 0, 4196, 0⟩).toArray 62 ∧ g ≠ q ∧ w3.heap.size ≤ g) := by
    have e1 := H4.out.size
    have e2 := H5.out.at'
    have l1 := H3.out.1.lt
    exact ⟨below_thru H4.out (H6.out.below H5.out.be H5.out.be.size (Nat.le_of_eq e2.symm)), H6.out.bk, by omega, by omega⟩
  clear H4 H5 H6 HG
  have HR : Hid (Calls Try.prog 19 #[.pointer (some ⟨q, 0, none⟩), .agg (cf0 (.slice none 0 0)).toArray, .agg pk0.toArray, .int .u32 5, .int .u32 1, .int .i64 0, .bool false] w6 fun e w' => e = .returned (.tuple #[.int .i64 2, .int .i64 1]) ∧ Below w6.heap.size w6 w') := by
    have := route_any q (exT bs b) (cf0 (.slice none 0 0)) pk0 _ false false false 4 0 0 5 1 0 w6 (H3.out.1.below H7.out.1) (cf0_cf _) pk0_pf (ex_kw bs b) (by decide)
    rw [(ex_rt bs b).1, (ex_rt bs b).2] at this
    exact this
  go_upto_region 7 with (first
    | (refine step_bdL (by rfl) 29 [] rfl [] (by rfl) (.agg (cf0 (.slice none 0 0)).toArray) (run_cfz _) ?_)
    | (refine step_bdL (by rfl) 47 [(2, .const (.int .i64 4))] rfl [(2, .int .i64 4)] (by rfl) (.agg pk0.toArray) (run_pk _) ?_)
    | (go_at_call 19; refine HR.out.mono ?_; rintro e w7 ⟨rfl, hb7⟩; have H8 : Hid (Below w6.heap.size w6 w7) := hb7; clear hb7))
  have H9 : Hid (Tb w7 q (exT bs b) ∧ Bk g w7 (enL ⟨b, 3, exA3, 0, 4196, 0⟩).toArray 62 ∧ Below w.heap.size w w7) := by
    exact ⟨(H3.out.1.below H7.out.1).below H8.out, H7.out.2.1.kept (H8.out.block _ H7.out.2.1.lt), below_thru (below_thru H3b.out.1 H7.out.1) H8.out⟩
  have c14 : w7.cell? ⟨g, 14, none⟩ = some (.int .i64 4196) := H9.out.2.1.cell 14
  have HX : Hid (Calls Try.prog 16 #[.pointer (some ⟨q, 0, none⟩), .int .i64 4195] w7 fun e w' => ∃ ao cap, e = .returned (.slice ao 0 cap) ∧ Tb w' q (exT bs b) ∧ w7.grownBy w' (some q)) := by
    refine (expire_any q (exT bs b) 4195 w7 H9.out.1).mono ?_
    rintro e w' ⟨T', v, rfl, h1, h2, h3, h4⟩
    have e1 : T' = exT bs b := at0_ext h1.out.len (h1.out.none (ex_no bs b))
    subst e1
    rw [gn_same] at h3
    obtain ⟨ao, cap, rfl⟩ := or_len0 h3.out
    exact ⟨ao, cap, rfl, h2.out, h4.out⟩
  have HD : Hid (∀ u, Calls Try.prog 12 #[.int .i64 0, .int .i64 3] u fun e w' => e = .returned (.int .i64 1) ∧ Below u.heap.size u w') := fun u => dispatch_any 0 3 u (by decide) (by decide)
  have HP : Hid (∀ u, Tb u q (exT bs b) → Calls Try.prog 21 #[.pointer (some ⟨q, 0, none⟩), .int .i64 3] u fun e w' => ∃ T', e = .returned (.bool true) ∧ atM T' 3 = none ∧ Tb w' q T' ∧ u.grownBy w' (some q)) := fun u hu => by
    refine (drop_any _ q (exT bs b) 3 u hu (Nat.le_refl _)).mono ?_
    rintro e w' ⟨T', rfl, h1, h2, h3⟩
    refine ⟨T', by rw [(ex_ge bs b).2], ?_, h2.out, h3.out⟩
    have := h1.out.gone 2 (by decide)
    exact (atM_at (T := T') 2 (by decide)).trans this
  have HP2 : Hid (∀ u T', Tb u q T' → atM T' 3 = none → Calls Try.prog 21 #[.pointer (some ⟨q, 0, none⟩), .int .i64 3] u fun e w' => e = .returned (.bool false) ∧ u.grownBy w' (some q)) := fun u T' hu h0 => by
    refine (drop_any _ q T' 3 u hu (Nat.le_refl _)).mono ?_
    rintro e w' ⟨T2, rfl, h1, h2, h3⟩
    exact ⟨by rw [h0]; rfl, h3.out⟩
  clear H3 H7 H8 HR
  go_wp2_with (first
    | (go_at_call 16; refine HX.out.mono ?_; rintro e w8 ⟨ao, cap, rfl, h8⟩; have H10 : Hid (Tb w8 q (exT bs b) ∧ w7.grownBy w8 (some q)) := h8; clear h8)
    | (go_at_call 12; refine (HD.out _).mono ?_; rintro e w9 ⟨rfl, hb9⟩; have H11 : Hid (Tb w9 q (exT bs b) ∧ w7.grownBy w9 (some q)) := ⟨H10.out.1.below hb9, grownBy_trans H10.out.2 (grownBy_below hb9 _)⟩; clear hb9)
    | (go_at_call 21; refine (HP2.out _ T10 H12.out.1 H12.out.2.2).mono ?_; rintro e w11 ⟨rfl, h11⟩; have H13 : Hid (w7.grownBy w11 (some q)) := grownBy_trans H12.out.2.1 h11; clear h11)
    | (go_at_call 21; refine (HP.out _ H11.out.1).mono ?_; rintro e w10 ⟨T10, rfl, h10, h10b, h10c⟩; have H12 : Hid (Tb w10 q T10 ∧ w7.grownBy w10 (some q) ∧ atM T10 3 = none) := ⟨h10b, grownBy_trans H11.out.2 h10c, h10⟩; clear h10 h10b h10c))
  rw [hQ.out]
  go_ret
  refine ⟨rfl, ?_⟩
  have g := H13.out
  have hq := H3b.out.2
  exact H9.out.2.2.trans ⟨g.os, g.tape, g.output, g.size, fun k hk => g.block k (Nat.lt_of_lt_of_le hk H9.out.2.2.size) (fun e => by injection e with e; omega)⟩
end Go.Proofs.Ytnjdmkgkpdebdaa
