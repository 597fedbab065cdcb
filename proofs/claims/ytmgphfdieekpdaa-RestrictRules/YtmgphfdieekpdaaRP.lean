/- hearAgain. -/
import Derived.Test.YtmgphfdieekpdaaRN
import Derived.Deep.RegionWith
import Derived.Deep.DeepCutAuto
namespace Go.Proofs.Ytmgphfdieekpdaa
open Go Go.RowKit
theorem flat_cell {k : Nat} {rows : List (List Value)} (h : ∀ r ∈ rows, r.length = k) (i j : Nat) (u : Value) (hi : i < rows.length) (hj : j < k) : rows.flatten.set (i * k + j) u = (rows.set i ((rows.getD i []).set j u)).flatten := by
  induction rows generalizing i with
  | nil => exact absurd hi (by simp)
  | cons s t ih =>
    have hs := h s (List.mem_cons_self ..)
    rw [List.flatten_cons]
    cases i with
    | zero =>
      rw [Nat.zero_mul, Nat.zero_add, List.set_append_left _ _ (by omega), List.set_cons_zero, List.flatten_cons]; rfl
    | succ i =>
      rw [List.set_cons_succ, List.flatten_cons, List.set_append_right _ _ (by rw [hs, Nat.add_mul]; omega), hs, show (i + 1) * k + j - k = i * k + j from by rw [Nat.add_mul]; omega, ih (fun x hx => h x (List.mem_cons_of_mem _ hx)) i (by simpa using hi)]
      rfl
/-- a cell of an element is stored -/
theorem OR.cellSet0 {w : World} {B g cap n : Nat} {e : TypeId} {k : Nat} {rows : List (List Value)} {i : Nat} (h : OR w B e k (.slice (some ⟨g, 0, none⟩) n cap) rows) (hi : i < rows.length) (j : Nat) (hj : j < k) (u : Value) :
    OR (w.setCell ⟨g, i * k + j, none⟩ u) B e k (.slice (some ⟨g, 0, none⟩) n cap) (rows.set i ((rows.getD i []).set j u)) ∧ w.grownBy (w.setCell ⟨g, i * k + j, none⟩ u) (some g) := by
  have hn : n = rows.length := by
    rcases h.row.2 with ⟨h1, _⟩ | ⟨_, _, _, h1, _⟩
    · injection h1 with h1; cases h1
    · injection h1 with _ h1 _
  subst hn
  obtain ⟨h1, h2⟩ := h.row.stored (i * k + j) u
  refine ⟨⟨by rw [List.length_set, ← flat_cell h.len i j u hi hj]; exact h1, fun x hx => ?_⟩, h2⟩
  rcases List.mem_or_eq_of_mem_set hx with h5 | h5
  · exact h.len x h5
  · rw [h5, List.length_set, List.getD_eq_getElem?_getD, List.getElem?_eq_getElem hi]
    exact h.len _ (List.getElem_mem hi)
theorem OR.cellSet {w : World} {B g cap n : Nat} {e : TypeId} {k : Nat} {rows : List (List Value)} {r : List Value} {i : Nat} (h : OR w B e k (.slice (some ⟨g, 0, none⟩) n cap) (rows.set i r)) (hi : i < rows.length) (j : Nat) (hj : j < k) (u : Value) :
    OR (w.setCell ⟨g, i * k + j, none⟩ u) B e k (.slice (some ⟨g, 0, none⟩) n cap) (rows.set i (r.set j u)) := by
  have h1 := (h.cellSet0 (by rw [List.length_set]; exact hi) j hj u).1
  rw [List.set_set, List.getD_eq_getElem?_getD, List.getElem?_set_self hi] at h1
  exact h1
theorem grown_cellSet {w w' : World} {g o : Nat} (h : w.grownBy w' (some g)) (u : Value) : w.grownBy (w'.setCell ⟨g, o, none⟩ u) (some g) :=
  ⟨h.os, h.tape, h.output, by simpa [World.setCell] using h.size, fun k hk hn => by rw [Below.heap_setCell _ _ _ _ (by show k ≠ g; intro e; exact hn (by rw [e]))]; exact h.block k hk hn⟩
theorem grown_drewN {w w' : World} {r : Option Nat} (h : w.grownBy w' r) (n : Nat) : w.grownBy (w'.drewN n) r := ⟨h.os, h.tape, h.output, h.size, h.block⟩
theorem grown_drew {w w' : World} {r : Option Nat} (h : w.grownBy w' r) : w.grownBy w'.drew r := ⟨h.os, h.tape, h.output, h.size, h.block⟩
theorem grown_refl (w : World) (r : Option Nat) : w.grownBy w r := ⟨rfl, rfl, rfl, Nat.le_refl _, fun _ _ _ => rfl⟩
theorem gap_wrap (now x2 G : Int) (hG : G = now - x2) (l0 : x2 ≤ now) (l1 : -9223372036854775808 ≤ x2) (l2 : now ≤ 9223372036854775807) : IntKind.u64.wrap (IntKind.u64.wrap now - IntKind.u64.wrap x2) = G := by
  rw [IntKind.wrap_u64, IntKind.wrap_u64, IntKind.wrap_u64]; omega
theorem u64_small (x : Int) (h0 : 0 ≤ x) (h1 : x ≤ 8192) : IntKind.u64.wrap x = x := by rw [IntKind.wrap_u64]; omega
/-- a sender is heard again -/
def haS (s : Sn) (cost mn now turns : Int) (lim kod : Bool) : Sn :=
  { s with last := now, count := if s.count < 2147483647 then s.count + 1 else s.count, turn := turns, score := if jdG cost mn (s.score - min (now - s.last) s.score) (now - s.last) lim kod = 0 then min (s.score - min (now - s.last) s.score + cost) (8 * cost) else s.score - min (now - s.last) s.score }
def haV (s : Sn) (cost mn now : Int) (lim kod : Bool) : Int := jdG cost mn (s.score - min (now - s.last) s.score) (now - s.last) lim kod
set_option maxHeartbeats 4000000 in
set_option maxRecDepth 20000 in
theorem hearAgain_any (B g h cap L : Nat) (rows : List (List Value)) (i : Nat) (s : Sn) (cost mn now turns flags : Int) (lim kod : Bool) (w : World) (hi : i < rows.length) (ho : OR w B 75 6 (.slice (some ⟨h, 0, none⟩) L cap) rows) (hs : rows.getD i [] = snL s)
    (hc : w.cell? ⟨g, 0, none⟩ = some (.int .i64 cost)) (hm : w.cell? ⟨g, 1, none⟩ = some (.int .i64 mn)) (hn : w.cell? ⟨g, 2, none⟩ = some (.int .i64 now)) (ht : w.cell? ⟨g, 3, none⟩ = some (.int .i64 turns)) (hgh : g ≠ h)
    (c0 : 0 ≤ cost) (c1 : cost ≤ 1024) (m0 : 0 ≤ mn) (m1 : mn ≤ 1024) (s0 : 0 ≤ s.score) (s1 : s.score ≤ 8192) (l0 : s.last ≤ now) (l1 : -9223372036854775808 ≤ s.last) (l2 : now ≤ 9223372036854775807) (k0 : 0 ≤ s.count) (k1 : s.count ≤ 2147483647)
    (hl : lim = decide (bits BinOp.and IntKind.i64 flags 32 ≠ 0)) (hk : kod = decide (bits BinOp.and IntKind.i64 flags 64 ≠ 0)) :
    Calls Try.prog 34 #[.pointer (some ⟨g, 0, none⟩), .pointer (some ⟨h, i * 6, none⟩), .int .i64 flags] w fun e w' => e = .returned (.int .i64 (haV s cost mn now lim kod)) ∧ OR w' B 75 6 (.slice (some ⟨h, 0, none⟩) L cap) (rows.set i (snL (haS s cost mn now turns lim kod))) ∧ w.grownBy w' (some h) := by
  have hat := ho.at i hi
  rw [hs] at hat
  have hfr : ∀ j, w.frozen? ⟨h, j, none⟩ = false := fun j => ho.frozen j
  have HO : Hid (OR w B 75 6 (.slice (some ⟨h, 0, none⟩) L cap) (rows.set i (snL s))) := by
    rw [← hs, List.getD_eq_getElem?_getD, List.getElem?_eq_getElem hi]
    show OR _ _ _ _ _ (rows.set i rows[i])
    rw [List.set_getElem_self]; exact ho
  have HI : Hid (i < rows.length) := hi
  obtain ⟨G, hG⟩ : ∃ G, G = now - s.last := ⟨_, rfl⟩
  obtain ⟨x0, x1, x2, x3, x4, x5⟩ := s
  simp only at s0 s1 l0 l1 k0 k1 hG
  have e0 := hat 0 _ rfl
  have e1 := hat 1 _ rfl
  have e2 := hat 2 _ rfl
  have e3 := hat 3 _ rfl
  have e4 := hat 4 _ rfl
  have e5 := hat 5 _ rfl
  simp [Addr.add] at e0 e1 e2 e3 e4 e5
  clear hat ho hs hi
  have eG : IntKind.u64.wrap (IntKind.u64.wrap now - IntKind.u64.wrap x2) = G := gap_wrap now x2 G hG l0 l1 l2
  have eX : IntKind.u64.wrap x4 = x4 := u64_small x4 s0 s1
  have g0 : 0 ≤ G := by omega
  obtain ⟨M, hM⟩ : ∃ M, M = (if x4 < G then x4 else G) := ⟨_, rfl⟩
  have hM2 : M = min G x4 := by rw [hM]; split <;> omega
  have m0' : 0 ≤ M := by omega
  have m1' : M ≤ x4 := by omega
  have HG : Hid (G = now - x2 ∧ M = min G x4) := ⟨hG, hM2⟩
  have eM : (if x4 < G then x4 else G) = M := hM.symm
  have e86 : IntKind.i64.wrap M = M := by rw [IntKind.wrap_i64]; omega
  clear hG hM hM2
  have hhg : h ≠ g := fun e => hgh e.symm
  go_enter Try.func34, Try.ntmps34
  go_wp2
  go_quiet (fail)
  go_wp2
  go_region
  go_wp2
  go_region
  generalize hW : World.drew _ = W3
  have HO3 : Hid (OR W3 B 75 6 (.slice (some ⟨h, 0, none⟩) L cap) (rows.set i [.int .u32 x0, .int .i64 x1, .int .i64 now, .int .i64 x3, .int .i64 (x4 - M), .int .i64 turns])) := by
    rw [← hW]
    exact ((((HO.out.drewN _).cellSet HI.out 4 (by decide) _).cellSet HI.out 2 (by decide) _).cellSet HI.out 5 (by decide) _).drew
  have HG3 : Hid (w.grownBy W3 (some h)) := by
    rw [← hW]
    exact grown_drew (grown_cellSet (grown_cellSet (grown_cellSet (grown_drewN (grown_refl _ _) _) _) _) _)
  have hc3 : W3.cell? ⟨g, 0, none⟩ = some (.int .i64 cost) := HG3.out.cell hc (by intro e; injection e with e; exact hgh e)
  have hm3 : W3.cell? ⟨g, 1, none⟩ = some (.int .i64 mn) := HG3.out.cell hm (by intro e; injection e with e; exact hgh e)
  have hat3 := HO3.out.at i (by rw [List.length_set]; exact HI.out)
  rw [List.getD_eq_getElem?_getD, List.getElem?_set_self HI.out] at hat3
  have f3 := hat3 3 _ rfl
  have f4 := hat3 4 _ rfl
  simp [Addr.add] at f3 f4
  have hfr3 : ∀ j, W3.frozen? ⟨h, j, none⟩ = false := fun j => HO3.out.frozen j
  obtain ⟨V, hV⟩ : ∃ V, V = jdG cost mn (x4 - M) G lim kod := ⟨_, rfl⟩
  have HJ : Hid (∀ u, u.cell? ⟨g, 0, none⟩ = some (.int .i64 cost) → u.cell? ⟨g, 1, none⟩ = some (.int .i64 mn) → Calls Try.prog 49 #[.pointer (some ⟨g, 0, none⟩), .int .i64 (x4 - M), .int .u64 G, .int .i64 flags] u fun e w' => e = .returned (.int .i64 V) ∧ ∃ n, w' = u.drewN n) := fun u h1 h2 => by
    rw [hV]; exact judge_any g cost mn (x4 - M) G flags lim kod u h1 h2 c0 c1 m0 m1 (by omega) (by omega) hl hk
  clear hl hk
  have HV : Hid (V = jdG cost mn (x4 - M) G lim kod) := hV
  clear hW hc hm hn ht e0 e1 e2 e3 e4 e5 hfr hat3 HO hV eG eX eM e86
  obtain ⟨C, hC⟩ : ∃ C, C = (if x3 < 2147483647 then x3 + 1 else x3) := ⟨_, rfl⟩
  have HF : Hid (snL (haS ⟨x0, x1, x2, x3, x4, x5⟩ cost mn now turns lim kod) = [.int .u32 x0, .int .i64 x1, .int .i64 now, .int .i64 C, .int .i64 (if V = 0 then min (x4 - M + cost) (8 * cost) else x4 - M), .int .i64 turns] ∧ haV ⟨x0, x1, x2, x3, x4, x5⟩ cost mn now lim kod = V) := by
    have h1 := HG.out
    unfold haS haV snL
    simp only
    rw [← h1.1, ← h1.2, ← HV.out, hC]
    exact ⟨rfl, rfl⟩
  have HMS : Hid (∀ u, u.cell? ⟨g, 0, none⟩ = some (.int .i64 cost) → Calls Try.prog 50 #[.pointer (some ⟨g, 0, none⟩)] u fun e w' => e = .returned (.int .i64 (8 * cost)) ∧ w' = u) := fun u hu => most_any g cost u hu c0 c1
  obtain ⟨b, hb⟩ : ∃ b, b = decide (x3 < 2147483647) := ⟨_, rfl⟩
  have eb : decide (x3 < 2147483647) = b := hb.symm
  have HBc : Hid (b = decide (x3 < 2147483647)) := hb
  have HCc : Hid (C = (if x3 < 2147483647 then x3 + 1 else x3)) := hC
  clear hb hC
  go_upto_if 59 with fail
  clear eb
  go_cut [7, 8] (fun gp vd wx => gp = .int .u64 G ∧ vd = undef ∧ Hid (OR wx B 75 6 (.slice (some ⟨h, 0, none⟩) L cap) (rows.set i [.int .u32 x0, .int .i64 x1, .int .i64 now, .int .i64 C, .int .i64 (x4 - M), .int .i64 turns])) ∧ Hid (w.grownBy wx (some h)) ∧ wx.cell? ⟨g, 0, none⟩ = some (.int .i64 cost) ∧ wx.cell? ⟨g, 1, none⟩ = some (.int .i64 mn))
  case first =>
    cases b
    · have HC : Hid (C = x3) := by
        have h1 := of_decide_eq_false HBc.out.symm
        have h2 := HCc.out
        rw [if_neg h1] at h2
        exact h2
      clear HBc HCc
      go_wp2_with fail
      go_meet
      case rel =>
        rw [HC.out]
        exact ⟨rfl, rfl, HO3, HG3, hc3, hm3⟩
    · have h1 := of_decide_eq_true HBc.out.symm
      have HC : Hid (C = x3 + 1) := by
        have h2 := HCc.out
        rw [if_pos h1] at h2
        exact h2
      have h1' : x3 + 1 ≤ 2147483647 := by omega
      clear HBc HCc h1
      go_wp2_with fail
      go_meet
      case rel =>
        rw [← HC.out]
        refine ⟨rfl, rfl, HO3.out.cellSet HI.out 3 (by decide) _, grown_cellSet HG3.out _, ?_, ?_⟩
        · exact (grown_cellSet (grown_refl W3 (some h)) _).cell hc3 (by intro e; injection e with e; exact hgh e)
        · exact (grown_cellSet (grown_refl W3 (some h)) _).cell hm3 (by intro e; injection e with e; exact hgh e)
  case rest =>
    obtain ⟨rfl, rfl, HO4, HG4, hc4, hm4⟩ := hcut
    clear HO3 HG3 hc3 hm3 f3 f4 hfr3 HBc HCc
    have hat4 := HO4.out.at i (by rw [List.length_set]; exact HI.out)
    rw [List.getD_eq_getElem?_getD, List.getElem?_set_self HI.out] at hat4
    have f4 := hat4 4 _ rfl
    simp [Addr.add] at f4
    clear hat4
    go_wp2_with fail
    refine (HJ.out _ hc4 hm4).mono ?_
    rintro e w5 ⟨rfl, n5, rfl⟩
    have HO5 : Hid (OR (wc.drewN n5) B 75 6 (.slice (some ⟨h, 0, none⟩) L cap) (rows.set i [.int .u32 x0, .int .i64 x1, .int .i64 now, .int .i64 C, .int .i64 (x4 - M), .int .i64 turns])) := HO4.out.drewN _
    have HG5 : Hid (w.grownBy (wc.drewN n5) (some h)) := grown_drewN HG4.out _
    have hc5 : (wc.drewN n5).cell? ⟨g, 0, none⟩ = some (.int .i64 cost) := hc4
    have f5 : (wc.drewN n5).cell? ⟨h, i * 6 + 4, none⟩ = some (.int .i64 (x4 - M)) := f4
    clear HO4 HG4 hc4 hm4 f4
    generalize wc.drewN n5 = W5 at *
    have hfr5 : ∀ j, W5.frozen? ⟨h, j, none⟩ = false := fun j => HO5.out.frozen j
    obtain ⟨K, hK⟩ : ∃ K, K = (if V = 0 then min (x4 - M + cost) (8 * cost) else x4 - M) := ⟨_, rfl⟩
    rw [← hK] at HF
    clear HV HJ
    obtain ⟨bv, hbv⟩ : ∃ bv, bv = (V == 0) := ⟨_, rfl⟩
    have ebv : (V == 0) = bv := hbv.symm
    have HKc : Hid (K = (if V = 0 then min (x4 - M + cost) (8 * cost) else x4 - M) ∧ bv = (V == 0)) := ⟨hK, hbv⟩
    clear hK hbv
    go_upto_if 79 with fail
    clear ebv
    go_cut [8] (fun vd wx => vd = .int .i64 V ∧ Hid (OR wx B 75 6 (.slice (some ⟨h, 0, none⟩) L cap) (rows.set i [.int .u32 x0, .int .i64 x1, .int .i64 now, .int .i64 C, .int .i64 K, .int .i64 turns])) ∧ Hid (w.grownBy wx (some h)))
    case first =>
      cases bv
      · have HK0 : Hid (K = x4 - M) := by
          have h1 := HKc.out
          rw [if_neg (by intro e; rw [e] at h1; simp at h1)] at h1
          exact h1.1
        clear HKc
        go_wp2_with fail
        go_meet
        case rel => exact ⟨rfl, by rw [HK0.out]; exact HO5, HG5⟩
      · have hV0 : V = 0 := by have h1 := HKc.out.2; simpa using h1.symm
        have hK := HKc.out.1
        rw [if_pos hV0] at hK
        subst hV0
        clear HKc
        have HK1 : Hid ((K = 8 * cost ∧ 8 * cost < x4 - M + cost) ∨ (K = x4 - M + cost ∧ x4 - M + cost ≤ 8 * cost)) := by
          show _ ∨ _
          rw [hK, Int.min_def]
          split
          · exact .inr ⟨rfl, by omega⟩
          · exact .inl ⟨rfl, by omega⟩
        have eW : IntKind.i64.wrap (x4 - M + cost) = x4 - M + cost := by rw [IntKind.wrap_i64]; omega
        clear hK
        go_wp2_with fail
        go_region_with (go_at_call 50; refine (HMS.out _ (by first | assumption | simp_all)).mono ?_; rintro e w6 ⟨rfl, rfl⟩)
        all_goals go_wp2_with fail
        all_goals
          go_meet
          case rel =>
            rcases HK1.out with ⟨hK1, hK2⟩ | ⟨hK1, hK2⟩
            all_goals
              subst hK1
              first
              | (exfalso; omega)
              | (refine ⟨rfl, ?_, ?_⟩
                 · first
                   | exact (HO5.out.cellSet HI.out 4 (by decide) _).drew
                   | exact (HO5.out.drew.cellSet HI.out 4 (by decide) _)
                 · first
                   | exact grown_drew (grown_cellSet HG5.out _)
                   | exact grown_cellSet (grown_drew HG5.out) _)
    case rest =>
      obtain ⟨rfl, HO6, HG6⟩ := hcut
      go_wp2
      go_ret
      exact ⟨ret_int' HF.out.2.symm, by rw [HF.out.1]; exact HO6.out, HG6.out⟩
end Go.Proofs.Ytmgphfdieekpdaa
