/- assoc: the reference's Route, whole. -/
import Derived.Test.YtnjdmkgkpdebdaaOI
namespace Go.Proofs.Ytnjdmkgkpdebdaa
open Go Go.RowKit Go.Sort
set_option linter.unusedVariables false
def rrN (l : List Mb) (frm : Int) : Int := fdF (fnP frm) l
def rrK (l : List Mb) (frm : Int) : Int := ((idM (rrN l frm) l).getD zMb).ac.kind
def rrB (frm : Int) : Bool := decide (frm = 0) || rgB frm
def rrF (l : List Mb) (auth : Bool) (npe ntr : Int) : Bool := decide (npe ≠ 0) || (decide (ntr ≠ 0) && !auth) || decide (16 ≤ l.length)
set_option maxRecDepth 40000 in
set_option maxHeartbeats 4000000 in
theorem rroute_any (d B : Nat) (l : List Mb) (cf pk : List Value) (av : Value) (ls mc auth : Bool) (mode poll key frm to flags : Int) (w : World) (h : Rt w d B l) (hid : ∀ m ∈ l, m.id ≠ 0) (hc : Cf cf av ls mc) (hp : Pf pk mode poll key) : Calls Try.prog 32 #[.pointer (some ⟨d, 0, none⟩), .agg cf.toArray, .agg pk.toArray, .int .u32 frm, .int .u32 to, .int .i64 flags, .bool auth] w fun e w' => e = .returned (.tuple #[.int .i64 (rwA l (dsN (rrK l frm) mode) to (bits .and .i64 flags 1) (rrB frm) (rrF l auth (bits .and .i64 flags 8) (bits .and .i64 flags 16)) ls mc), .int .i64 (rwI l (dsN (rrK l frm) mode) (rrN l frm) (rrF l auth (bits .and .i64 flags 8) (bits .and .i64 flags 16)))]) ∧ Below w.heap.size w w' := by
  have HT : Hid (Rt w d B l ∧ Cf cf av ls mc ∧ Pf pk mode poll key ∧ ∀ m ∈ l, m.id ≠ 0) := ⟨h, hc, hp, hid⟩
  clear h hc hp hid
  obtain ⟨n, hn⟩ : ∃ n, rrN l frm = n := ⟨_, rfl⟩
  obtain ⟨y, hy⟩ : ∃ y, (idM n l).getD zMb = y := ⟨_, rfl⟩
  obtain ⟨is, his⟩ : ∃ i, (idM n l).isSome = i := ⟨_, rfl⟩
  obtain ⟨D, hD⟩ : ∃ D, dsN y.ac.kind mode = D := ⟨_, rfl⟩
  obtain ⟨nb, hnb⟩ : ∃ b, rrB frm = b := ⟨_, rfl⟩
  obtain ⟨N8, hN8⟩ : ∃ N, bits .and .i64 flags 8 = N := ⟨_, rfl⟩
  obtain ⟨N16, hN16⟩ : ∃ N, bits .and .i64 flags 16 = N := ⟨_, rfl⟩
  obtain ⟨df, hdf⟩ : ∃ b, rrF l auth N8 N16 = b := ⟨_, rfl⟩
  have hD2 : dsN (rrK l frm) mode = D := by unfold rrK; rw [hn, hy, hD]
  rw [hD2, hN8, hN16, hn, hnb, hdf]
  have CF : Hid (∀ u, Rt u d B l → Calls Try.prog 35 #[.pointer (some ⟨d, 0, none⟩), .int .u32 frm] u fun e w' => e = .returned (.int .i64 n) ∧ Below u.heap.size u w') := fun u hu => by rw [← hn]; exact rfind_any d B l frm u hu
  have CG : Hid (∀ u, Rt u d B l → Calls Try.prog 54 #[.pointer (some ⟨d, 0, none⟩), .int .i64 n] u fun e w' => e = .returned (.tuple #[.agg (enL y).toArray, .bool is]) ∧ Below u.heap.size u w') := fun u hu => by rw [← hy, ← his]; exact rget_any d B l n u hu
  have CD : Hid (∀ u, Calls Try.prog 13 #[.int .i64 y.ac.kind, .int .i64 mode] u fun e w' => e = .returned (.int .i64 D) ∧ w' = u) := fun u => by rw [← hD]; exact rdispatch_any y.ac.kind mode u
  have CR : Hid (∀ u, Calls Try.prog 55 #[.int .u32 frm] u fun e w' => e = .returned (.bool (rgB frm)) ∧ w' = u) := fun u => group_any frm u
  have HNB : Hid (rrB frm = nb ∧ rrF l auth N8 N16 = df) := ⟨hnb, hdf⟩
  clear hn hy his hD hD2 hnb hdf
  go_enter Try.func32, Try.ntmps32
  refine post_hid fun Q hQ => ?_
  refine seq_hid fun R hR => ?_
  go_wp2_with (first
    | (refine step_boxL (by rfl) 29 _ rfl cf.toArray (by rfl) (fun u => by rfl) ?_; intro W1 gc H1)
    | (refine step_boxL (by rfl) 47 _ rfl pk.toArray (by rfl) (fun u => by rfl) ?_; intro W2 gp H2))
  rw [hR.out]
  clear hR
  have H3 : Hid (Rt W2 d B l ∧ Bk gc W2 cf.toArray 29 ∧ Bk gp W2 pk.toArray 47 ∧ Below w.heap.size w W2) := ⟨(HT.out.1.below H1.out.be).below H2.out.be, H2.out.other H1.out.bk, H2.out.bk, below_thru H1.out.be H2.out.be⟩
  clear H1 H2
  refine seq_hid fun R hR => ?_
  go_wp2_with (go_at_call 35; refine (CF.out W2 H3.out.1).mono ?_; rintro e w1 ⟨rfl, hb1⟩)
  rw [hR.out]
  clear hR
  have H4 : Hid (Rt w1 d B l ∧ Bk gc w1 cf.toArray 29 ∧ Bk gp w1 pk.toArray 47 ∧ Below w.heap.size w w1) := ⟨H3.out.1.below hb1, H3.out.2.1.kept (hb1.block _ H3.out.2.1.lt), H3.out.2.2.1.kept (hb1.block _ H3.out.2.2.1.lt), below_thru H3.out.2.2.2 hb1⟩
  clear H3 hb1
  refine seq_hid fun R hR => ?_
  go_wp2_with (first
    | (go_at_call 54; refine (CG.out w1 H4.out.1).mono ?_; rintro e w2 ⟨rfl, hb2⟩)
    | (refine step_alL (by rfl) 81 rfl (enL zMb).toArray (fun u => by kernel_rfl) ?_; intro w3 g H5)
    | (refine step_stL (by rfl) _ _ rfl g (enL y).toArray (by rfl) (by rfl) (enL zMb).toArray (by kernel_rfl) (by kernel_rfl) (by kernel_rfl) H5.out.bk ?_; intro w4 H6))
  rw [hR.out]
  clear hR
  have H7 : Hid (Rt w4 d B l ∧ Bk gc w4 cf.toArray 29 ∧ Bk gp w4 pk.toArray 47 ∧ Below w.heap.size w w4 ∧ Bk g w4 (enL y).toArray 81) := by
    have hb := below_thru hb2 (H6.out.below H5.out.be H5.out.be.size (Nat.le_of_eq H5.out.at'.symm))
    exact ⟨H4.out.1.below hb, H4.out.2.1.kept (hb.block _ H4.out.2.1.lt), H4.out.2.2.1.kept (hb.block _ H4.out.2.2.1.lt), below_thru H4.out.2.2.2 hb, H6.out.bk⟩
  clear H4 H5 H6 hb2
  have e1 : w4.cell? ⟨g, 1, none⟩ = some (.int .i64 y.ac.kind) := H7.out.2.2.2.2.cell 1
  have p2 : w4.cell? ⟨gp, 2, none⟩ = some (.int .i64 mode) := by rw [H7.out.2.2.1.cell 2, List.getElem?_toArray]; exact HT.out.2.2.1.mode
  refine seq_hid fun R hR => ?_
  go_wp2_with (go_at_call 13; refine (CD.out _).mono ?_; rintro e w5 ⟨rfl, hw5⟩; rw [hw5]; clear hw5)
  rw [hR.out]
  clear hR e1 p2
  obtain ⟨ao, cap, hb, -⟩ := H7.out.1.read
  obtain ⟨k0, hk0⟩ : ∃ n, l.length = n := ⟨_, rfl⟩
  rw [hk0] at hb
  have c0 : w4.cell? ⟨d, 0, none⟩ = some (.slice ao k0 cap) := hb.cell 0
  have HK0 : Hid (l.length = k0) := hk0
  clear hb hk0
  have fin : Hid (∀ (tm' : Array Value) (W' : World), tm'.getD 14 undef = .int .i64 (rwA l D to (bits .and .i64 flags 1) nb df ls mc) → tm'.getD 15 undef = .int .i64 (rwI l D n df) → Below w4.heap.size w4 W' → Q .ret { tmps := tm', defers := [] } W') := fun tm' W' k1 k2 k3 => by
    rw [hQ.out]
    refine bodyPost_ret (results_tmp2 rfl _ _ _) rfl ?_
    refine ⟨?_, below_thru H7.out.2.2.2.1 k3⟩
    show Ending.returned (.tuple #[tm'.getD 14 undef, tm'.getD 15 undef]) = _
    rw [k1, k2]
  obtain ⟨G, hG⟩ : ∃ G, rgB frm = G := ⟨_, rfl⟩
  rw [hG] at CR
  have hnb : nb = (decide (frm = 0) || G) := by rw [← HNB.out.1]; unfold rrB; rw [hG]
  have HNb : Hid (nb = (decide (frm = 0) || G)) := hnb
  have HDf : Hid (df = (decide (N8 ≠ 0) || (decide (N16 ≠ 0) && !auth) || decide (16 ≤ k0))) := by show _ = _; rw [← HNB.out.2]; unfold rrF; rw [HK0.out]
  clear hG hnb HNB
  have go : Hid (∀ nb' df', nb' = nb → df' = df → True) := fun _ _ _ _ => trivial
  clear go
  refine seq_hid fun R hR => ?_
  by_cases f0 : frm = 0
  · subst f0
    have HNt : Hid (nb = true) := by show _ = _; rw [HNb.out]; simp
    go_wp2_with fail
    rw [hR.out]
    clear hR
    refine seq_hid fun R hR => ?_
    by_cases a8 : N8 = 0
    · by_cases b16 : N16 = 0
      · have HDt : Hid (df = decide ((16 : Int) ≤ k0)) := by show _ = _; rw [HDf.out, Bool.eq_iff_iff]; simp [a8, b16]; omega
        subst a8 b16
        go_wp2_with fail
        rw [hR.out]
        exact rr_ways (by kernel_rfl) [] w4 d B gc l cf av ls mc _ _ to flags n D Q H7.out.1 H7.out.2.1 HT.out.2.1 HT.out.2.2.2 (by have f := fin.out; rw [HNt.out, HDt.out] at f; exact f)
      · have b1 : (N16 == 0) = false := by simpa using b16
        have b2 : (N16 != 0) = true := by simpa using b16
        cases auth
        · have HDt : Hid (df = true) := by show _ = _; rw [HDf.out]; simp [b16]
          subst a8
          go_wp2_with fail
          rw [hR.out]
          exact rr_ways (by kernel_rfl) [] w4 d B gc l cf av ls mc _ _ to flags n D Q H7.out.1 H7.out.2.1 HT.out.2.1 HT.out.2.2.2 (by have f := fin.out; rw [HNt.out, HDt.out] at f; exact f)
        · have HDt : Hid (df = decide ((16 : Int) ≤ k0)) := by show _ = _; rw [HDf.out, Bool.eq_iff_iff]; simp [a8]; omega
          subst a8
          go_wp2_with fail
          rw [hR.out]
          exact rr_ways (by kernel_rfl) [] w4 d B gc l cf av ls mc _ _ to flags n D Q H7.out.1 H7.out.2.1 HT.out.2.1 HT.out.2.2.2 (by have f := fin.out; rw [HNt.out, HDt.out] at f; exact f)
    · have a1 : (N8 == 0) = false := by simpa using a8
      have a2 : (N8 != 0) = true := by simpa using a8
      have HDt : Hid (df = true) := by show _ = _; rw [HDf.out]; simp [a8]
      go_wp2_with fail
      rw [hR.out]
      exact rr_ways (by kernel_rfl) [] w4 d B gc l cf av ls mc _ _ to flags n D Q H7.out.1 H7.out.2.1 HT.out.2.1 HT.out.2.2.2 (by have f := fin.out; rw [HNt.out, HDt.out] at f; exact f)
  · have f1 : (frm == 0) = false := by simpa using f0
    have HNt : Hid (nb = G) := by show _ = _; rw [HNb.out]; simp [f0]
    go_wp2_with (go_at_call 55; refine (CR.out _).mono ?_; rintro e w5 ⟨rfl, hw5⟩; rw [hw5]; clear hw5)
    rw [hR.out]
    clear hR
    refine seq_hid fun R hR => ?_
    by_cases a8 : N8 = 0
    · by_cases b16 : N16 = 0
      · have HDt : Hid (df = decide ((16 : Int) ≤ k0)) := by show _ = _; rw [HDf.out, Bool.eq_iff_iff]; simp [a8, b16]; omega
        subst a8 b16
        go_wp2_with fail
        rw [hR.out]
        exact rr_ways (by kernel_rfl) [] w4 d B gc l cf av ls mc _ _ to flags n D Q H7.out.1 H7.out.2.1 HT.out.2.1 HT.out.2.2.2 (by have f := fin.out; rw [HNt.out, HDt.out] at f; exact f)
      · have b1 : (N16 == 0) = false := by simpa using b16
        have b2 : (N16 != 0) = true := by simpa using b16
        cases auth
        · have HDt : Hid (df = true) := by show _ = _; rw [HDf.out]; simp [b16]
          subst a8
          go_wp2_with fail
          rw [hR.out]
          exact rr_ways (by kernel_rfl) [] w4 d B gc l cf av ls mc _ _ to flags n D Q H7.out.1 H7.out.2.1 HT.out.2.1 HT.out.2.2.2 (by have f := fin.out; rw [HNt.out, HDt.out] at f; exact f)
        · have HDt : Hid (df = decide ((16 : Int) ≤ k0)) := by show _ = _; rw [HDf.out, Bool.eq_iff_iff]; simp [a8]; omega
          subst a8
          go_wp2_with fail
          rw [hR.out]
          exact rr_ways (by kernel_rfl) [] w4 d B gc l cf av ls mc _ _ to flags n D Q H7.out.1 H7.out.2.1 HT.out.2.1 HT.out.2.2.2 (by have f := fin.out; rw [HNt.out, HDt.out] at f; exact f)
    · have a1 : (N8 == 0) = false := by simpa using a8
      have a2 : (N8 != 0) = true := by simpa using a8
      have HDt : Hid (df = true) := by show _ = _; rw [HDf.out]; simp [a8]
      go_wp2_with fail
      rw [hR.out]
      exact rr_ways (by kernel_rfl) [] w4 d B gc l cf av ls mc _ _ to flags n D Q H7.out.1 H7.out.2.1 HT.out.2.1 HT.out.2.2.2 (by have f := fin.out; rw [HNt.out, HDt.out] at f; exact f)
end Go.Proofs.Ytnjdmkgkpdebdaa
