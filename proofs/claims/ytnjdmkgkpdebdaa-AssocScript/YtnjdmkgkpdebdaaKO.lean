/- assoc: Route. -/
import Derived.Test.YtnjdmkgkpdebdaaKMb
namespace Go.Proofs.Ytnjdmkgkpdebdaa
open Go Go.RowKit Go.Sort
set_option linter.unusedVariables false
/-- the kind that stands under a number -/
def kdI (ms : List (Option Mb)) (id : Int) : Int := match atM ms id with
  | none => 0
  | some m => m.ac.kind
/-- what becomes of a packet, and whose it is -/
def rtN (ms : List (Option Mb)) (mode frm : Int) : Int := dsN (kdI ms (fsF (nkP frm false) ms)) mode
def rtA (ms : List (Option Mb)) (ls mc auth : Bool) (mode frm to nos npe ntr : Int) : Int := if rtN ms mode frm = 2 then 2 else if rtN ms mode frm = 1 then anI mc frm to nos else if rtN ms mode frm = 3 then (if mmB ms auth npe ntr && sgB frm then 3 else 0) else if rtN ms mode frm = 4 then (if mmB ms auth npe ntr && ls then 4 else 0) else if rtN ms mode frm = 5 then (if mmB ms auth npe ntr && decide (srI ms ≠ 0) then 5 else 0) else 0
def rtI (ms : List (Option Mb)) (auth : Bool) (mode frm npe ntr : Int) : Int := if rtN ms mode frm = 2 then fsF (nkP frm false) ms else if rtN ms mode frm = 5 then (if mmB ms auth npe ntr && decide (srI ms ≠ 0) then srI ms else 0) else 0
/-- the boxes of a call with a configuration and a packet, beside the table -/
structure Rb (w W : World) (q : Nat) (ms : List (Option Mb)) (g1 g2 : Nat) (cf pk : List Value) : Prop where
  tb : Tb W q ms
  b1 : Bk g1 W cf.toArray 29
  b2 : Bk g2 W pk.toArray 47
  be : Below w.heap.size w W
theorem Rb.below {w W W' : World} {q g1 g2 : Nat} {ms : List (Option Mb)} {cf pk : List Value} (h : Rb w W q ms g1 g2 cf pk) (hb : Below W.heap.size W W') : Rb w W' q ms g1 g2 cf pk :=
  ⟨h.tb.below hb, h.b1.kept (hb.block _ h.b1.lt), h.b2.kept (hb.block _ h.b2.lt), below_thru h.be hb⟩
def kWf (ms : List (Option Mb)) : Prop := ∀ (i : Nat) m, ms[i]? = some (some m) → (Lit.int .i64 m.ac.kind).wf = true
theorem kd_wf {ms : List (Option Mb)} (h : kWf ms) (id : Int) : (Lit.int .i64 (kdI ms id)).wf = true := by
  unfold kdI
  cases hm : atM ms id with
  | none => decide
  | some m =>
    obtain ⟨i, hi, -, -⟩ := atM_mem hm
    exact h i m hi
set_option maxRecDepth 20000 in
set_option maxHeartbeats 2000000 in
theorem route_any (q : Nat) (ms : List (Option Mb)) (cf pk : List Value) (av : Value) (ls mc auth : Bool) (mode poll key frm to flags : Int) (w : World) (h : Tb w q ms) (hc : Cf cf av ls mc) (hp : Pf pk mode poll key) (hk : kWf ms) (hm : (Lit.int .i64 mode).wf = true) : Calls Try.prog 19 #[.pointer (some ⟨q, 0, none⟩), .agg cf.toArray, .agg pk.toArray, .int .u32 frm, .int .u32 to, .int .i64 flags, .bool auth] w fun e w' => e = .returned (.tuple #[.int .i64 (rtA ms ls mc auth mode frm to (bits .and .i64 flags 1) (bits .and .i64 flags 8) (bits .and .i64 flags 16)), .int .i64 (rtI ms auth mode frm (bits .and .i64 flags 8) (bits .and .i64 flags 16))]) ∧ Below w.heap.size w w' := by
  have HT : Hid (Tb w q ms ∧ Cf cf av ls mc ∧ Pf pk mode poll key) := ⟨h, hc, hp⟩
  have HW : Hid ((Lit.int .i64 (kdI ms (fsF (nkP frm false) ms))).wf = true ∧ (Lit.int .i64 mode).wf = true) := ⟨kd_wf hk _, hm⟩
  clear h hc hp hk hm
  obtain ⟨I, hI⟩ : ∃ I, fsF (nkP frm false) ms = I := ⟨_, rfl⟩
  obtain ⟨k, hk⟩ : ∃ k, kdI ms I = k := ⟨_, rfl⟩
  obtain ⟨D, hD⟩ : ∃ D, dsN k mode = D := ⟨_, rfl⟩
  obtain ⟨M, hM⟩ : ∃ M, mmB ms auth (bits .and .i64 flags 8) (bits .and .i64 flags 16) = M := ⟨_, rfl⟩
  obtain ⟨S, hS⟩ : ∃ S, srI ms = S := ⟨_, rfl⟩
  obtain ⟨G, hG⟩ : ∃ G, sgB frm = G := ⟨_, rfl⟩
  obtain ⟨A, hA⟩ : ∃ A, anI mc frm to (bits .and .i64 flags 1) = A := ⟨_, rfl⟩
  have HR : Hid (rtN ms mode frm = D) := by show _ = _; unfold rtN; rw [hI, hk, hD]
  have HA : Hid (rtA ms ls mc auth mode frm to (bits .and .i64 flags 1) (bits .and .i64 flags 8) (bits .and .i64 flags 16) = if D = 2 then 2 else if D = 1 then A else if D = 3 then (if M && G then 3 else 0) else if D = 4 then (if M && ls then 4 else 0) else if D = 5 then (if M && decide (S ≠ 0) then 5 else 0) else 0) := by show _ = _; unfold rtA; rw [HR.out, hM, hS, hG, hA]
  have HB : Hid (rtI ms auth mode frm (bits .and .i64 flags 8) (bits .and .i64 flags 16) = if D = 2 then I else if D = 5 then (if M && decide (S ≠ 0) then S else 0) else 0) := by show _ = _; unfold rtI; rw [HR.out, hM, hS, hI]
  rw [hI, hk] at HW
  have CF : Hid (∀ u, Tb u q ms → Calls Try.prog 34 #[.pointer (some ⟨q, 0, none⟩), .int .u32 frm] u fun e w' => e = .returned (.int .i64 I) ∧ Below u.heap.size u w') := fun u hu => by rw [← hI]; exact find_any q ms frm u hu
  have CM : Hid (∀ u, Tb u q ms → Calls Try.prog 44 #[.pointer (some ⟨q, 0, none⟩), .int .i64 flags, .bool auth] u fun e w' => e = .returned (.bool M) ∧ w' = u) := fun u hu => by rw [← hM]; exact mayMobilise_any q ms flags auth u hu
  have CD : Hid (∀ u, Calls Try.prog 12 #[.int .i64 k, .int .i64 mode] u fun e w' => e = .returned (.int .i64 D) ∧ Below u.heap.size u w') := fun u => by rw [← hD]; exact dispatch_any k mode u HW.out.1 HW.out.2
  have CS : Hid (∀ u, Tb u q ms → Calls Try.prog 47 #[.pointer (some ⟨q, 0, none⟩)] u fun e w' => e = .returned (.int .i64 S) ∧ Below u.heap.size u w') := fun u hu => by rw [← hS]; exact search_any q ms u hu
  have CG : Hid (∀ u, Calls Try.prog 46 #[.int .u32 frm] u fun e w' => e = .returned (.bool G) ∧ w' = u) := fun u => by rw [← hG]; exact isSingle_any frm u
  have CA : Hid (∀ u, Calls Try.prog 45 #[.agg cf.toArray, .int .u32 frm, .int .u32 to, .int .i64 flags] u fun e w' => e = .returned (.int .i64 A) ∧ Below u.heap.size u w') := fun u => by rw [← hA]; exact answers_any cf av ls mc frm to flags u HT.out.2.1
  have HK : Hid (kdI ms I = k) := hk
  clear hI hk hD hM hS hG hA HW
  go_enter Try.func19, Try.ntmps19
  refine post_hid fun Q hQ => ?_
  refine seq_hid fun R hR => ?_
  go_wp2_with (first
    | (refine step_boxL (by rfl) 29 _ rfl cf.toArray (by rfl) (fun u => by rfl) ?_; intro W1 g1 H1)
    | (refine step_boxL (by rfl) 47 _ rfl pk.toArray (by rfl) (fun u => by rfl) ?_; intro W2 g2 H2))
  have H3 : Hid (Rb w W2 q ms g1 g2 cf pk) := ⟨(HT.out.1.below H1.out.be).below H2.out.be, H2.out.other H1.out.bk, H2.out.bk, below_thru H1.out.be H2.out.be⟩
  clear H1 H2
  rw [hR.out]
  clear hR
  refine seq_hid fun R hR => ?_
  go_wp2_with (go_at_call 34; refine (CF.out W2 H3.out.tb).mono ?_; rintro e w1 ⟨rfl, hb1⟩; have H4 : Hid (Rb w w1 q ms g1 g2 cf pk) := H3.out.below hb1; clear hb1)
  clear H3 CF
  rw [hR.out]
  clear hR
  obtain ⟨x, hx⟩ : ∃ x, atM ms I = x := ⟨_, rfl⟩
  have HX : Hid (atM ms I = x) := hx
  clear hx
  have fin : Hid (∀ x y u, Below w.heap.size w u → x = rtA ms ls mc auth mode frm to (bits .and .i64 flags 1) (bits .and .i64 flags 8) (bits .and .i64 flags 16) → y = rtI ms auth mode frm (bits .and .i64 flags 8) (bits .and .i64 flags 16) → (Ending.returned (.tuple #[.int .i64 x, .int .i64 y]) = Ending.returned (.tuple #[.int .i64 (rtA ms ls mc auth mode frm to (bits .and .i64 flags 1) (bits .and .i64 flags 8) (bits .and .i64 flags 16)), .int .i64 (rtI ms auth mode frm (bits .and .i64 flags 8) (bits .and .i64 flags 16))]) ∧ Below w.heap.size w u)) := fun x y u hb h1 h2 => ⟨by rw [h1, h2], hb⟩
  cases x with
  | none =>
    have hk0 : k = 0 := by rw [← HK.out]; unfold kdI; rw [HX.out]
    subst hk0
    go_upto_region 7 with (first
      | (go_at_call 39; refine (at_any q ms I w1 H4.out.tb).mono ?_; rintro e w2 ⟨rfl, hw2⟩; rw [HX.out, hw2]; unfold ptr; simp only; clear hw2)
      | (go_at_call 44; refine (CM.out w1 H4.out.tb).mono ?_; rintro e w3 ⟨rfl, hw3⟩; rw [hw3]; clear hw3; have c2 : w1.cell? ⟨g2, 2, none⟩ = some (.int .i64 mode) := by (rw [H4.out.b2.cell 2, List.getElem?_toArray]; exact HT.out.2.2.mode))
      | (go_at_call 12; refine (CD.out _).mono ?_; rintro e w4 ⟨rfl, hb4⟩; have H5 : Hid (Rb w w4 q ms g1 g2 cf pk) := H4.out.below hb4; clear hb4))
    clear H4 CM CD c2 HX HK
    have c8 : w4.cell? ⟨g1, 8, none⟩ = some (.bool ls) := by rw [H5.out.b1.cell 8, List.getElem?_toArray]; exact HT.out.2.1.lis
    have HC : Hid (∀ j u, cf[j]? = some u → w4.cell? ((⟨g1, 0, none⟩ : Addr).add j) = some u) := cells_of H5.out.b1
    have HL : Hid ((Try.prog.info? 29).map (·.size) = some cf.length) := by show _ = _; rw [HT.out.2.1.len]; kernel_rfl
    by_cases d2 : D = 2
    · subst d2
      go_wp2_with fail
      rw [hQ.out]
      go_ret2
      exact fin.out _ _ _ H5.out.be (by rw [HA.out]; rfl) (by rw [HB.out]; rfl)
    have n2 : (D == 2) = false := by simpa using d2
    by_cases d1 : D = 1
    · subst d1
      go_wp2_with (first
        | (refine step_ldat 29 _ rfl rfl ⟨g1, 0, none⟩ (by rfl) cf _ Try.underlying29 rfl HL.out HC.out ?_)
        | (go_at_call 45; refine (CA.out _).mono ?_; rintro e w5 ⟨rfl, hb5⟩))
      rw [hQ.out]
      go_ret2
      exact fin.out _ _ _ (H5.out.below hb5).be (by rw [HA.out]; rfl) (by rw [HB.out]; rfl)
    have n1 : (D == 1) = false := by simpa using d1
    by_cases d3 : D = 3
    · subst d3
      cases M <;> cases G
      all_goals
        go_wp2_with (go_at_call 46; refine (CG.out _).mono ?_; rintro e w5 ⟨rfl, hw5⟩; rw [hw5]; clear hw5)
        rw [hQ.out]
        go_ret2
        exact fin.out _ _ _ H5.out.be (by rw [HA.out]; rfl) (by rw [HB.out]; rfl)
    have n3 : (D == 3) = false := by simpa using d3
    by_cases d4 : D = 4
    · subst d4
      cases M <;> cases ls
      all_goals
        go_wp2_with fail
        rw [hQ.out]
        go_ret2
        exact fin.out _ _ _ H5.out.be (by rw [HA.out]; rfl) (by rw [HB.out]; rfl)
    have n4 : (D == 4) = false := by simpa using d4
    by_cases d5 : D = 5
    · subst d5
      have CS4 : Hid (Calls Try.prog 47 #[.pointer (some ⟨q, 0, none⟩)] w4 fun e w' => e = .returned (.int .i64 S) ∧ Below w4.heap.size w4 w') := CS.out w4 H5.out.tb
      cases M
      · go_wp2_with (go_at_call 47; refine CS4.out.mono ?_; rintro e w5 ⟨rfl, hb5⟩)
        rw [hQ.out]
        go_ret2
        exact fin.out _ _ _ (H5.out.below hb5).be (by rw [HA.out]; rfl) (by rw [HB.out]; rfl)
      · by_cases s0 : S = 0
        · subst s0
          go_wp2_with (go_at_call 47; refine CS4.out.mono ?_; rintro e w5 ⟨rfl, hb5⟩)
          rw [hQ.out]
          go_ret2
          exact fin.out _ _ _ (H5.out.below hb5).be (by rw [HA.out]; rfl) (by rw [HB.out]; rfl)
        · have s1 : (S == 0) = false := by simpa using s0
          have s2 : (S != 0) = true := by simpa using s0
          go_wp2_with (go_at_call 47; refine CS4.out.mono ?_; rintro e w5 ⟨rfl, hb5⟩)
          rw [hQ.out]
          go_ret2
          exact fin.out _ _ _ (H5.out.below hb5).be (by rw [HA.out]; simp [s0]) (by rw [HB.out]; simp [s0])
    have n5 : (D == 5) = false := by simpa using d5
    go_wp2_with fail
    rw [hQ.out]
    go_ret2
    exact fin.out _ _ _ H5.out.be (by rw [HA.out, if_neg d2, if_neg d1, if_neg d3, if_neg d4, if_neg d5]) (by rw [HB.out, if_neg d2, if_neg d5])
  | some m =>
    have hk0 : m.ac.kind = k := by rw [← HK.out]; unfold kdI; rw [HX.out]
    obtain ⟨i, hi, -, -⟩ := atM_mem HX.out
    have c1 : w1.cell? ⟨m.b, 1, none⟩ = some (.int .i64 k) := by rw [← hk0]; exact (H4.out.tb.mem i m hi).1.cell 1
    clear hi hk0
    go_upto_region 7 with (first
      | (go_at_call 39; refine (at_any q ms I w1 H4.out.tb).mono ?_; rintro e w2 ⟨rfl, hw2⟩; rw [HX.out, hw2]; unfold ptr; simp only; clear hw2)
      | (go_at_call 44; refine (CM.out w1 H4.out.tb).mono ?_; rintro e w3 ⟨rfl, hw3⟩; rw [hw3]; clear hw3; have c2 : w1.cell? ⟨g2, 2, none⟩ = some (.int .i64 mode) := by (rw [H4.out.b2.cell 2, List.getElem?_toArray]; exact HT.out.2.2.mode))
      | (go_at_call 12; refine (CD.out _).mono ?_; rintro e w4 ⟨rfl, hb4⟩; have H5 : Hid (Rb w w4 q ms g1 g2 cf pk) := H4.out.below hb4; clear hb4))
    clear c1
    clear H4 CM CD c2 HX HK
    have c8 : w4.cell? ⟨g1, 8, none⟩ = some (.bool ls) := by rw [H5.out.b1.cell 8, List.getElem?_toArray]; exact HT.out.2.1.lis
    have HC : Hid (∀ j u, cf[j]? = some u → w4.cell? ((⟨g1, 0, none⟩ : Addr).add j) = some u) := cells_of H5.out.b1
    have HL : Hid ((Try.prog.info? 29).map (·.size) = some cf.length) := by show _ = _; rw [HT.out.2.1.len]; kernel_rfl
    by_cases d2 : D = 2
    · subst d2
      go_wp2_with fail
      rw [hQ.out]
      go_ret2
      exact fin.out _ _ _ H5.out.be (by rw [HA.out]; rfl) (by rw [HB.out]; rfl)
    have n2 : (D == 2) = false := by simpa using d2
    by_cases d1 : D = 1
    · subst d1
      go_wp2_with (first
        | (refine step_ldat 29 _ rfl rfl ⟨g1, 0, none⟩ (by rfl) cf _ Try.underlying29 rfl HL.out HC.out ?_)
        | (go_at_call 45; refine (CA.out _).mono ?_; rintro e w5 ⟨rfl, hb5⟩))
      rw [hQ.out]
      go_ret2
      exact fin.out _ _ _ (H5.out.below hb5).be (by rw [HA.out]; rfl) (by rw [HB.out]; rfl)
    have n1 : (D == 1) = false := by simpa using d1
    by_cases d3 : D = 3
    · subst d3
      cases M <;> cases G
      all_goals
        go_wp2_with (go_at_call 46; refine (CG.out _).mono ?_; rintro e w5 ⟨rfl, hw5⟩; rw [hw5]; clear hw5)
        rw [hQ.out]
        go_ret2
        exact fin.out _ _ _ H5.out.be (by rw [HA.out]; rfl) (by rw [HB.out]; rfl)
    have n3 : (D == 3) = false := by simpa using d3
    by_cases d4 : D = 4
    · subst d4
      cases M <;> cases ls
      all_goals
        go_wp2_with fail
        rw [hQ.out]
        go_ret2
        exact fin.out _ _ _ H5.out.be (by rw [HA.out]; rfl) (by rw [HB.out]; rfl)
    have n4 : (D == 4) = false := by simpa using d4
    by_cases d5 : D = 5
    · subst d5
      have CS4 : Hid (Calls Try.prog 47 #[.pointer (some ⟨q, 0, none⟩)] w4 fun e w' => e = .returned (.int .i64 S) ∧ Below w4.heap.size w4 w') := CS.out w4 H5.out.tb
      cases M
      · go_wp2_with (go_at_call 47; refine CS4.out.mono ?_; rintro e w5 ⟨rfl, hb5⟩)
        rw [hQ.out]
        go_ret2
        exact fin.out _ _ _ (H5.out.below hb5).be (by rw [HA.out]; rfl) (by rw [HB.out]; rfl)
      · by_cases s0 : S = 0
        · subst s0
          go_wp2_with (go_at_call 47; refine CS4.out.mono ?_; rintro e w5 ⟨rfl, hb5⟩)
          rw [hQ.out]
          go_ret2
          exact fin.out _ _ _ (H5.out.below hb5).be (by rw [HA.out]; rfl) (by rw [HB.out]; rfl)
        · have s1 : (S == 0) = false := by simpa using s0
          have s2 : (S != 0) = true := by simpa using s0
          go_wp2_with (go_at_call 47; refine CS4.out.mono ?_; rintro e w5 ⟨rfl, hb5⟩)
          rw [hQ.out]
          go_ret2
          exact fin.out _ _ _ (H5.out.below hb5).be (by rw [HA.out]; simp [s0]) (by rw [HB.out]; simp [s0])
    have n5 : (D == 5) = false := by simpa using d5
    go_wp2_with fail
    rw [hQ.out]
    go_ret2
    exact fin.out _ _ _ H5.out.be (by rw [HA.out, if_neg d2, if_neg d1, if_neg d3, if_neg d4, if_neg d5]) (by rw [HB.out, if_neg d2, if_neg d5])
end Go.Proofs.Ytnjdmkgkpdebdaa
