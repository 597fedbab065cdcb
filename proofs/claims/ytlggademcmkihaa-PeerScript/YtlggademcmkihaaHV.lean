/- sample and Hear of the program. -/
import Derived.Test.YtlggademcmkihaaHU
namespace Go.Proofs.Ytlggademcmkihaa
open Go Go.RowKit
/-- results: a number and a struct in memory; the other way round -/
theorem results_tc {fn : Func} {p u : Tmp} {ty : TypeId} (h : fn.results = #[.tmp u, .cell p ty]) (tmps : Array Value) (w : World) (g : Nat) (t : TypeId) (cs : List Value) (d : TypeDesc) (x : Value)
    (hx : tmps.getD u undef = x) (hp : tmps.getD p undef = .pointer (some ⟨g, 0, none⟩)) (hg : w.heap[g]? = some (.cells cs.toArray t (0, 0)))
    (hu : Try.prog.underlying ty = some d) (hd : d.isRow = true) (hi : (Try.prog.info? ty).map (·.size) = some cs.length) :
    (results fn tmps).run Try.prog w = .ok (.tuple #[x, .agg cs.toArray]) w := by
  have hp' : tmps[p]?.getD undef = .pointer (some ⟨g, 0, none⟩) := by simpa using hp
  have hx' : tmps[u]?.getD undef = x := by simpa using hx
  simp [results, h, hp', hx', asAddr, run_loadVar_at w ⟨g, 0, none⟩ ty cs d (cells_of hg) hu hd hi]
theorem results_ct {fn : Func} {p u : Tmp} {ty : TypeId} (h : fn.results = #[.cell p ty, .tmp u]) (tmps : Array Value) (w : World) (g : Nat) (t : TypeId) (cs : List Value) (d : TypeDesc) (x : Value)
    (hx : tmps.getD u undef = x) (hp : tmps.getD p undef = .pointer (some ⟨g, 0, none⟩)) (hg : w.heap[g]? = some (.cells cs.toArray t (0, 0)))
    (hu : Try.prog.underlying ty = some d) (hd : d.isRow = true) (hi : (Try.prog.info? ty).map (·.size) = some cs.length) :
    (results fn tmps).run Try.prog w = .ok (.tuple #[.agg cs.toArray, x]) w := by
  have hp' : tmps[p]?.getD undef = .pointer (some ⟨g, 0, none⟩) := by simpa using hp
  have hx' : tmps[u]?.getD undef = x := by simpa using hx
  simp [results, h, hp', hx', asAddr, run_loadVar_at w ⟨g, 0, none⟩ ty cs d (cells_of hg) hu hd hi]
def smZ : Array Value := #[.int .i64 0, .int .i64 0, .int .i64 0, .int .u64 0]
/-- the call's first two blocks: a packet, and room for a sample -/
structure VC (w W : World) (q : Pk) : Prop where
  below : Below w.heap.size w W
  pk : Kb W w.heap.size q
  room : Bk (w.heap.size + 1) W smZ 48
theorem VC.step {w W W' : World} {q : Pk} (h : VC w W q) (hb : Below W.heap.size W W') : VC w W' q :=
  ⟨h.below.trans (hb.mono h.below.size), h.pk.kept (hb.block _ h.pk.lt), h.room.kept (hb.block _ h.room.lt)⟩
theorem VC.drewN {w W : World} {q : Pk} (h : VC w W q) (n : Nat) : VC w (W.drewN n) q := ⟨below_dr h.below n, h.pk, h.room⟩
theorem VC.new (w : World) (q : Pk) : VC w ((w.alloc (.cells (pkC q).toArray 44)).alloc (.cells smZ 48)) q := by
  refine ⟨((Below.refl _ _).alloc (Nat.le_refl _) _).alloc (by simp) _, (Kb.new w q).kept (((Below.refl _ _).alloc (Nat.le_refl _) _).block _ (by simp)), ?_⟩
  have := Bk.new (w.alloc (.cells (pkC q).toArray 44)) smZ 48
  rw [size_alloc1] at this
  exact this
theorem pow_bd (n : Int) : W64 (Fx.sh 4294967296 n) := by
  unfold W64
  by_cases h : n < 0
  · rw [Fx.sh_neg _ _ h]
    have h1 : (4294967296 : Int) / 2 ^ (min (-n) 63).toNat ≤ 4294967296 := Int.ediv_le_self _ (by decide)
    have h2 : 0 ≤ (4294967296 : Int) / 2 ^ (min (-n) 63).toNat := Int.ediv_nonneg (by decide) (Int.le_of_lt (Int.pow_pos (by decide)))
    omega
  · unfold Fx.sh
    rw [if_neg h]
    have := cl62 (4294967296 * 2 ^ n.toNat)
    omega
set_option maxRecDepth 20000 in
set_option maxHeartbeats 1000000 in
theorem sample_any (q : Pk) (rec : Int) (w : World) (hq : okP q) : Calls Try.prog 52 #[.agg (pkC q).toArray, .int .u64 rec] w fun e w' => e = .returned (.agg (smL (smO q rec)).toArray) ∧ Below w.heap.size w w' := by
  obtain ⟨P1, hP1⟩ : ∃ P1, Fx.sh 4294967296 q.prec = P1 := ⟨_, rfl⟩
  obtain ⟨P2, hP2⟩ : ∃ P2, Fx.sh 4294967296 (-20) = P2 := ⟨_, rfl⟩
  obtain ⟨P, hP⟩ : ∃ P, prI q = P := ⟨_, rfl⟩
  have b1 := pow_bd q.prec
  have b2 := pow_bd (-20)
  rw [hP1] at b1
  rw [hP2] at b2
  have bP : -4611686018427387904 ≤ P ∧ P ≤ 4611686018427387904 := by rw [← hP]; exact cl62 _
  have bs := sn_bd q.xmt rec
  have bw := dr_bd (max (sn rec q.org) 0)
  have H1 : Hid (∀ u, Calls Try.prog 76 #[.int .i64 q.prec] u fun e w' => e = .returned (.int .i64 P1) ∧ w' = u) := fun u => by rw [← hP1]; exact power_any _ u hq.prec.1 hq.prec.2
  have H2 : Hid (∀ u, Calls Try.prog 76 #[.int .i64 (-20)] u fun e w' => e = .returned (.int .i64 P2) ∧ w' = u) := fun u => by rw [← hP2]; exact power_any _ u (by decide) (by decide)
  have H3 : Hid (∀ u, Calls Try.prog 46 #[.int .i64 P1, .int .i64 P2] u fun e w' => e = .returned (.int .i64 P) ∧ w' = u) := fun u => by rw [← hP]; unfold prI; rw [hP1, hP2]; exact add_any _ _ u b1.1 b1.2 b2.1 b2.2
  have HP2 : Hid (P2 = 4096) := by show P2 = _; rw [← hP2]; decide
  go_enter Try.func52, Try.ntmps52
  refine post_hid fun Q hQ => ?_
  refine seq_hid fun R hR => ?_
  go_wp2
  refine world_hid fun W hW => ?_
  have HA : Hid (VC w W q) := by show VC _ _ _; rw [hW.out]; exact VC.new w q
  clear hW
  rw [hR.out]
  clear hR
  refine seq_hid fun R hR => ?_
  have k1 := HA.out.pk.prec
  go_wp2_with (first
    | (go_at_call 46; refine (H3.out _).mono ?_; rintro e wq ⟨rfl, hwq⟩; rw [hwq]; clear hwq)
    | (go_at_call 76; refine (H1.out _).mono ?_; rintro e wq ⟨rfl, hwq⟩; rw [hwq]; clear hwq)
    | (go_at_call 76; refine (H2.out _).mono ?_; rintro e wq ⟨rfl, hwq⟩; rw [hwq]; clear hwq))
  rw [hR.out]
  clear hR H1 H2 H3 k1
  have k2 := HA.out.pk.mode
  have k3 := HA.out.pk.xmt
  by_cases hm : q.mode = 5
  · obtain ⟨O, hO⟩ : ∃ O, Fx.cl 4611686018427387904 (sn q.xmt rec + 8388608) = O := ⟨_, rfl⟩
    obtain ⟨D, hD⟩ : ∃ D, sn q.xmt rec = D := ⟨_, rfl⟩
    have eS : smO q rec = ⟨O, 16777216, P, rec⟩ := by unfold smO; rw [if_pos hm, hP, hO]
    have C1 : Hid (∀ u, Calls Try.prog 30 #[.int .u64 q.xmt, .int .u64 rec] u fun e w' => e = .returned (.int .i64 D) ∧ w' = u) := fun u => by rw [← hD]; exact since_any _ _ u
    have C2 : Hid (∀ u, Calls Try.prog 46 #[.int .i64 D, .int .i64 8388608] u fun e w' => e = .returned (.int .i64 O) ∧ w' = u) := fun u => by
      have h := add_any (sn q.xmt rec) 8388608 u (by omega) (by omega) (by decide) (by decide)
      rw [hO, hD] at h
      exact h
    rw [eS] at hQ
    clear eS hO hD hP hP1 hP2 b1 b2 bP bs bw
    rw [hm] at k2
    go_wp2_with (first
      | (go_at_call 30; refine (C1.out _).mono ?_; rintro e wq ⟨rfl, hwq⟩; rw [hwq]; clear hwq)
      | (go_at_call 46; refine (C2.out _).mono ?_; rintro e wq ⟨rfl, hwq⟩; rw [hwq]; clear hwq)
      | (refine step_stR (by rfl) _ _ rfl (w.heap.size + 1) (smL ⟨O, 16777216, P, rec⟩).toArray (by rfl) (by rfl) smZ (by kernel_rfl) (by kernel_rfl) (smL_one _) HA.out.room ?_))
    rw [hQ.out]
    exact bodyPost_ret (v := .agg (smL ⟨O, 16777216, P, rec⟩).toArray) (results_cell_row Try.results52 _ _ (w.heap.size + 1) _ _ (0, 0) _ (by rfl) (setRow_heap _ _ _ _ _ _ HA.out.room) Try.underlying48 rfl (by kernel_rfl)) rfl ⟨rfl, below_row HA.out.below (Nat.le_succ _) _⟩
  · have hm' : (q.mode == 5) = false := by simpa using hm
    obtain ⟨O, hO⟩ : ∃ O, exO q.org q.rc q.xmt rec = O := ⟨_, rfl⟩
    obtain ⟨D, hD⟩ : ∃ D, exD q.org q.rc q.xmt rec = D := ⟨_, rfl⟩
    obtain ⟨E, hE⟩ : ∃ E, wr q.org rec = E := ⟨_, rfl⟩
    obtain ⟨F, hF⟩ : ∃ F, Fx.cl 4611686018427387904 (P + E) = F := ⟨_, rfl⟩
    have eS : smO q rec = ⟨O, D, F, rec⟩ := by unfold smO; rw [if_neg hm, hP, hO, hD, hE, hF]
    have C1 : Hid (∀ u, Calls Try.prog 9 #[.int .u64 q.org, .int .u64 q.rc, .int .u64 q.xmt, .int .u64 rec] u fun e w' => e = .returned (.tuple #[.int .i64 O, .int .i64 D]) ∧ w' = u) := fun u => by rw [← hO, ← hD]; exact exchange_any _ _ _ _ u
    have C2 : Hid (∀ u, Calls Try.prog 49 #[.int .u64 q.org, .int .u64 rec] u fun e w' => e = .returned (.int .i64 E) ∧ ∃ n, w' = u.drewN n) := fun u => by rw [← hE]; exact worn_any _ _ u
    have C3 : Hid (∀ u, Calls Try.prog 46 #[.int .i64 P, .int .i64 E] u fun e w' => e = .returned (.int .i64 F) ∧ w' = u) := fun u => by
      have bE : -4611686018427387904 ≤ E ∧ E ≤ 4611686018427387904 := by rw [← hE]; exact dr_bd _
      rw [← hF]
      exact add_any _ _ u (by omega) (by omega) (by omega) (by omega)
    rw [eS] at hQ
    clear eS hO hD hP hP1 hP2 b1 b2 bP bs bw hE hF
    have k4 := HA.out.pk.org
    have k5 := HA.out.pk.rc
    go_wp2_with (first
      | (go_at_call 9; refine (C1.out _).mono ?_; rintro e wq ⟨rfl, hwq⟩; rw [hwq]; clear hwq)
      | (go_at_call 49; refine (C2.out _).mono ?_; rintro e w6 ⟨rfl, n6, hw6⟩; have HA : Hid (VC w w6 q) := (by show VC _ _ _; rw [hw6]; exact HA.out.drewN n6); clear hw6)
      | (go_at_call 46; refine (C3.out _).mono ?_; rintro e wq ⟨rfl, hwq⟩; rw [hwq]; clear hwq)
      | (refine step_stR (by rfl) _ _ rfl (w.heap.size + 1) (smL ⟨O, D, F, rec⟩).toArray (by rfl) (by rfl) smZ (by kernel_rfl) (by kernel_rfl) (smL_one _) HA.out.room ?_))
    rw [hQ.out]
    exact bodyPost_ret (v := .agg (smL ⟨O, D, F, rec⟩).toArray) (results_cell_row Try.results52 _ _ (w.heap.size + 1) _ _ (0, 0) _ (by rfl) (setRow_heap _ _ _ _ _ _ HA.out.room) Try.underlying48 rfl (by kernel_rfl)) rfl ⟨rfl, below_row HA.out.below (Nat.le_succ _) _⟩
/-- a packet and room for a sample, and the association behind stores -/
structure VD (w W : World) (p : Nat) (q : Pk) (s : Ps) : Prop where
  grown : w.grownBy W (some p)
  pk : Kb W w.heap.size q
  room : Bk (w.heap.size + 1) W smZ 48
  pm : Pm W p s
  lt : p < w.heap.size
theorem VD.below {w W W' : World} {p : Nat} {q : Pk} {s : Ps} (h : VD w W p q s) (hb : Below W.heap.size W W') : VD w W' p q s :=
  ⟨grownBy_trans h.grown (grownBy_below hb _), h.pk.kept (hb.block _ h.pk.lt), h.room.kept (hb.block _ h.room.lt), h.pm.kept (hb.block _ h.pm.lt), h.lt⟩
theorem VD.step {w W W' : World} {p : Nat} {q : Pk} {s s' : Ps} (h : VD w W p q s) (hg : W.grownBy W' (some p)) (hp : Pm W' p s') : VD w W' p q s' :=
  ⟨grownBy_trans h.grown hg, h.pk.kept (hg.block _ h.pk.lt (fun e => by injection e with e; have := h.lt; omega)), h.room.kept (hg.block _ h.room.lt (fun e => by injection e with e; have := h.lt; omega)), hp, h.lt⟩
theorem VD.row {w W : World} {p : Nat} {q : Pk} {s : Ps} (h : VD w W p q s) (cs : Array Value) : Pm (W.setRow (w.heap.size + 1) cs) p s ∧ w.grownBy (W.setRow (w.heap.size + 1) cs) (some p) :=
  ⟨h.pm.kept (setRow_other _ _ _ _ (by have := h.lt; omega)), ⟨h.grown.os, h.grown.tape, h.grown.output, by simpa using h.grown.size, fun k hk hne => (setRow_other _ _ _ _ (by omega)).trans (h.grown.block k hk hne)⟩⟩
set_option maxRecDepth 20000 in
set_option maxHeartbeats 1000000 in
theorem hear_any (p : Nat) (s : Ps) (q : Pk) (rec : Int) (a : Bool) (w : World) (h : Pm w p s) (hs : okS s) (hq : okP q) : Calls Try.prog 29 #[.pointer (some ⟨p, 0, none⟩), .agg (pkC q).toArray, .int .u64 rec, .bool a] w fun e w' => e = .returned (.tuple #[.int .i64 (vdI s q a), .agg (smL (hrS s q rec a)).toArray]) ∧ Pm w' p (hrP s q rec a) ∧ w.grownBy w' (some p) := by
  unfold hrS hrP
  obtain ⟨V, hV⟩ : ∃ V, vdI s q a = V := ⟨_, rfl⟩
  rw [hV]
  have C1 : Hid (∀ u, Pm u p s → Calls Try.prog 50 #[.pointer (some ⟨p, 0, none⟩), .agg (pkC q).toArray, .bool a] u fun e w' => e = .returned (.int .i64 V) ∧ Below u.heap.size u w') := fun u hu => by rw [← hV]; exact verdict_any p s q a u hu hs hq
  obtain ⟨s2, hs2⟩ : ∃ s2, lrn s V q rec a = s2 := ⟨_, rfl⟩
  rw [hs2]
  have C2 : Hid (∀ u, Pm u p s → Calls Try.prog 51 #[.pointer (some ⟨p, 0, none⟩), .int .i64 V, .agg (pkC q).toArray, .int .u64 rec, .bool a] u fun e w' => e = .returned (.tuple #[]) ∧ Pm w' p s2 ∧ u.grownBy w' (some p)) := fun u hu => by rw [← hs2]; exact learn_any p s V q rec a u hu
  obtain ⟨x, hx⟩ : ∃ x, smO q rec = x := ⟨_, rfl⟩
  rw [hx]
  have C3 : Hid (∀ u, Calls Try.prog 52 #[.agg (pkC q).toArray, .int .u64 rec] u fun e w' => e = .returned (.agg (smL x).toArray) ∧ Below u.heap.size u w') := fun u => by rw [← hx]; exact sample_any q rec u hq
  have HP : Hid (Pm w p s) := h
  clear hV hs2 hx hs hq h
  go_enter Try.func29, Try.ntmps29
  refine post_hid fun Q hQ => ?_
  refine seq_hid fun R hR => ?_
  go_wp2
  refine world_hid fun W hW => ?_
  have HA : Hid (VD w W p q s) := by
    have h := VC.new w q
    show VD _ _ _ _ _
    rw [hW.out]
    exact ⟨grownBy_below h.below _, h.pk, h.room, HP.out.kept (h.below.block p HP.out.lt), HP.out.lt⟩
  clear hW HP
  rw [hR.out]
  clear hR
  by_cases v0 : V = 0
  · subst v0
    rw [if_pos rfl] at hQ
    go_wp2_with (first
      | (refine step_ldat 44 _ rfl rfl ⟨w.heap.size, 0, none⟩ (by rfl) (pkC q) _ Try.underlying44 rfl (by kernel_rfl) HA.out.pk.all ?_)
      | (go_at_call 50; refine (C1.out _ HA.out.pm).mono ?_; rintro e w5 ⟨rfl, hb5⟩; have HA : Hid (VD w w5 p q s) := VD.below HA.out hb5; clear hb5)
      | (go_at_call 51; refine (C2.out _ HA.out.pm).mono ?_; rintro e w6 ⟨rfl, hp6, hg6⟩; have HA : Hid (VD w w6 p q s2) := VD.step HA.out hg6 hp6; clear hp6 hg6)
      | (go_at_call 52; refine (C3.out _).mono ?_; rintro e w7 ⟨rfl, hb7⟩; have HA : Hid (VD w w7 p q s2) := VD.below HA.out hb7; clear hb7)
      | (refine step_stR (by rfl) _ _ rfl (w.heap.size + 1) (smL x).toArray (by rfl) (by rfl) smZ (by kernel_rfl) (by kernel_rfl) (smL_one _) HA.out.room ?_))
    rw [hQ.out]
    exact bodyPost_ret (v := .tuple #[.int .i64 0, .agg (smL x).toArray]) (results_tc Try.results29 _ _ (w.heap.size + 1) _ _ _ _ (by rfl) (by rfl) (setRow_heap _ _ _ _ _ _ HA.out.room) Try.underlying48 rfl (by kernel_rfl)) rfl ⟨rfl, HA.out.row _⟩
  · have v0' : (V != 0) = true := by simpa using v0
    rw [if_neg v0] at hQ
    go_wp2_with (first
      | (refine step_ldat 44 _ rfl rfl ⟨w.heap.size, 0, none⟩ (by rfl) (pkC q) _ Try.underlying44 rfl (by kernel_rfl) HA.out.pk.all ?_)
      | (go_at_call 50; refine (C1.out _ HA.out.pm).mono ?_; rintro e w5 ⟨rfl, hb5⟩; have HA : Hid (VD w w5 p q s) := VD.below HA.out hb5; clear hb5)
      | (go_at_call 51; refine (C2.out _ HA.out.pm).mono ?_; rintro e w6 ⟨rfl, hp6, hg6⟩; have HA : Hid (VD w w6 p q s2) := VD.step HA.out hg6 hp6; clear hp6 hg6)
      | (refine step_stR (by rfl) _ _ rfl (w.heap.size + 1) (smL sm0).toArray (by rfl) (by rfl) smZ (by kernel_rfl) (by kernel_rfl) (smL_one _) HA.out.room ?_))
    rw [hQ.out]
    exact bodyPost_ret (v := .tuple #[.int .i64 V, .agg (smL sm0).toArray]) (results_tc Try.results29 _ _ (w.heap.size + 1) _ _ _ _ (by rfl) (by rfl) (setRow_heap _ _ _ _ _ _ HA.out.room) Try.underlying48 rfl (by kernel_rfl)) rfl ⟨rfl, HA.out.row _⟩
end Go.Proofs.Ytlggademcmkihaa
