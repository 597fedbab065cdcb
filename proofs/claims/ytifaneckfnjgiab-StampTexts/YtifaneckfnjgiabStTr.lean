/- What the reference's Parse returns. -/
import Derived.Test.YtifaneckfnjgiabTxtC
import Derived.Test.YtifaneckfnjgiabStSc
import Derived.Test.YtifaneckfnjgiabStG
import Derived.WalkKit
import Derived.WalkSpells
import Derived.WalkLawsBesides
import Derived.WalkMore
import Derived.Handy
import Derived.Below
import Derived.Deep.QuietTactic
import Derived.BigQuiet
import Derived.Deep.RegionHeld3
import Derived.Deep.AppendLies
namespace Go.Proofs.Ytifaneckfnjgiab
open Go.RowKit
theorem form_at2 : ∀ k (h : k < 26), ((⟨#[100, 100, 100, 100, 45, 100, 100, 45, 100, 100, 32, 100, 100, 58, 100, 100, 58, 100, 100, 46, 100, 100, 100, 100, 100, 100]⟩ : ByteArray)[k]'h).toNat = Tx.frd k := by decide
theorem frd_dig {k : Nat} (h : Tx.frm k = 48) : Tx.frd k = 100 := by unfold Tx.frd; rw [if_pos h]
theorem frd_sep : ∀ k, k < 26 → Tx.frm k ≠ 48 → Tx.frd k = Tx.frm k ∧ Tx.frm k ≠ 100 := by decide
theorem info3 : (Try.prog.info? 3).map (fun i => (i.zero, i.size, i.bytes)) = some (some (.int .i64 0), 1, 8) := by kernel_rfl
theorem info3_parts : ∃ i, Try.prog.info? 3 = some i ∧ i.zero = some (.int .i64 0) ∧ i.size = 1 ∧ i.bytes = 8 := by
  have h := info3
  cases hi : Try.prog.info? 3 with
  | none => rw [hi] at h; cases h
  | some i =>
    rw [hi] at h
    simp at h
    exact ⟨i, rfl, h.1, h.2.1, h.2.2⟩
/-- what lies in memory when the places ahead of k are read -/
structure PS (w wr : World) (b : Nat → Int) (k : Nat) (v : Value) : Prop where
  own : wr.ownsRow (w.heap.size + 1) 3 1 v (Tx.bg k) (Tx.vs (Value.int .i64) b k)
  bel : Below w.heap.size w wr
  top : w.heap.size < wr.heap.size
  r0 : wr.cell? ⟨w.heap.size, 0, none⟩ = some (.int .i64 0)
  r1 : wr.cell? ⟨w.heap.size, 1, none⟩ = some (.int .u64 0)
  rf : ∀ o, wr.frozen? ⟨w.heap.size, o, none⟩ = false
theorem PS.drewN {w wr : World} {b : Nat → Int} {k : Nat} {v : Value} (h : PS w wr b k v) (n : Nat) : PS w (wr.drewN n) b k v := by
  induction n with
  | zero => exact h
  | succ n ih => exact ⟨ih.own, ih.bel.drew, ih.top, ih.r0, ih.r1, ih.rf⟩
theorem PS.sep {w wr : World} {b : Nat → Int} {k : Nat} {v : Value} (h : PS w wr b k v) (hk : k < 26) (hf : Tx.frm k ≠ 48) : PS w wr b (k + 1) v :=
  ⟨by rw [Tx.vs_sep _ b k hk hf, Tx.sep_bg k hk hf]; exact h.own, h.bel, h.top, h.r0, h.r1, h.rf⟩
theorem PS.ne {w wr : World} {b : Nat → Int} {k : Nat} {v : Value} (h : PS w wr b k v) : some w.heap.size ≠ v.ownBlock := fun e => by
  have := (h.own.lt _ e.symm).1
  omega
theorem PS.grow {w wr w' : World} {b : Nat → Int} {k : Nat} {v v' : Value} (h : PS w wr b k v) (o : Obj) (hk : k < 26) (hf : Tx.frm k = 48) (hn : Tx.isNew k = true)
    (ho : w'.ownsRow (w.heap.size + 1) 3 1 v' (Tx.bg k + 1) (Tx.vs (Value.int .i64) b k ++ [.int .i64 (b k - 48)])) (hg : (wr.alloc o).grownBy w' v.ownBlock) : PS w w' b (k + 1) v' := by
  have t := h.top
  have hlt : w.heap.size < (wr.alloc o).heap.size := by simp; omega
  refine ⟨by rw [Tx.vs_new _ b k hk hf hn, Tx.new_bg k hk hf hn]; exact ho, (h.bel.alloc (Nat.le_of_lt t) o).grown hg (Nat.le_of_lt hlt) (fun j e => by have := (h.own.lt j e).1; omega), Nat.lt_of_lt_of_le hlt hg.size, ?_, ?_, fun j => ?_⟩
  · rw [hg.cell_far _ hlt h.ne, World.cell?_alloc_lt (h := t)]; exact h.r0
  · rw [hg.cell_far _ hlt h.ne, World.cell?_alloc_lt (h := t)]; exact h.r1
  · rw [hg.frozen_far _ hlt h.ne, World.frozen?_alloc_old (h := Nat.ne_of_lt t)]; exact h.rf j
theorem PS.store {w wr : World} {b : Nat → Int} {k g cap : Nat} (h : PS w wr b k (.slice (some ⟨g, 0, none⟩) (Tx.bg k) cap)) (hk : k < 26) (hf : Tx.frm k = 48) (hn : Tx.isNew k = false) :
    PS w (wr.setCell ⟨g, Tx.fl k, none⟩ (.int .i64 (Tx.nv b k (Tx.fl k) * 10 + (b k - 48)))) b (k + 1) (.slice (some ⟨g, 0, none⟩) (Tx.bg k) cap) := by
  have hl := (h.own.lt g rfl).1
  have st := (h.own.stored (Tx.fl k) (.int .i64 (Tx.nv b k (Tx.fl k) * 10 + (b k - 48)))).1
  refine ⟨by rw [Tx.vs_old _ b k hk hf hn, Tx.old_bg k hk hf hn]; exact st, h.bel.setCell (by show _ ≤ g; omega) _, by simpa [World.setCell] using h.top, ?_, ?_, fun j => by simp [h.rf j]⟩
  · rw [World.cell?_setCell_other (h := by intro x; injection x with x; omega)]; exact h.r0
  · rw [World.cell?_setCell_other (h := by intro x; injection x with x; omega)]; exact h.r1
set_option maxHeartbeats 400000 in
theorem rparse_short (s : ByteArray) (w : World) (h26 : s.size ≠ 26) :
    Calls Try.prog 11 #[.string s] w fun e w' => e = .returned (noD 21) ∧ Below w.heap.size w w' := by
  have hb : ((s.size : Int) != 26) = true := by rw [bne_iff_ne]; omega
  go_enter Try.func11, Try.ntmps11
  go_wp2
  exact bodyPost_ret (v := noD 21) (by simp [results, Try.results11, go_sem, noD]) rfl ⟨rfl, (by repeat' (first | with_reducible exact Below.refl _ _ | with_reducible refine Below.setCell ?_ (by first | (simp; done) | (simp; omega) | omega) _ | with_reducible refine below_drewN ?_ _ | with_reducible refine Below.drew ?_ | with_reducible refine Below.alloc ?_ (by first | (simp; done) | (simp; omega) | omega) _))⟩
/-- what the last statement reads -/
structure Kr (w v : World) (g : Nat) (N : Nat → Int) : Prop where
  bel : Below w.heap.size w v
  top : w.heap.size < v.heap.size
  tog : g < v.heap.size
  r0 : v.cell? ⟨w.heap.size, 0, none⟩ = some (.int .i64 0)
  r1 : v.cell? ⟨w.heap.size, 1, none⟩ = some (.int .u64 0)
  rf : ∀ o, v.frozen? ⟨w.heap.size, o, none⟩ = false
  n0 : v.cell? ⟨g, 0, none⟩ = some (.int .i64 (N 0))
  n1 : v.cell? ⟨g, 1, none⟩ = some (.int .i64 (N 1))
  n2 : v.cell? ⟨g, 2, none⟩ = some (.int .i64 (N 2))
  n3 : v.cell? ⟨g, 3, none⟩ = some (.int .i64 (N 3))
  n4 : v.cell? ⟨g, 4, none⟩ = some (.int .i64 (N 4))
  n5 : v.cell? ⟨g, 5, none⟩ = some (.int .i64 (N 5))
  n6 : v.cell? ⟨g, 6, none⟩ = some (.int .i64 (N 6))
theorem Kr.step0 {w v v' : World} {g : Nat} {N : Nat → Int} (x : Kr w v g N) (hb : Below v.heap.size v v') : Kr w v' g N :=
  ⟨x.bel.trans (hb.mono (Nat.le_of_lt x.top)), Nat.lt_of_lt_of_le x.top hb.size, Nat.lt_of_lt_of_le x.tog hb.size, by rw [hb.cell x.top]; exact x.r0, by rw [hb.cell x.top]; exact x.r1, fun o => by rw [hb.frozen x.top]; exact x.rf o, by rw [hb.cell x.tog]; exact x.n0, by rw [hb.cell x.tog]; exact x.n1, by rw [hb.cell x.tog]; exact x.n2, by rw [hb.cell x.tog]; exact x.n3, by rw [hb.cell x.tog]; exact x.n4, by rw [hb.cell x.tog]; exact x.n5, by rw [hb.cell x.tog]; exact x.n6⟩
theorem Kr.step1 {w v v' : World} {g : Nat} {N : Nat → Int} (x : Kr w v g N) (hb : Below v.drew.heap.size v.drew v') : Kr w v' g N :=
  Kr.step0 (v := v.drew) ⟨x.bel.drew, x.top, x.tog, x.r0, x.r1, x.rf, x.n0, x.n1, x.n2, x.n3, x.n4, x.n5, x.n6⟩ hb
theorem Kr.far {w v : World} {g : Nat} {N : Nat → Int} {u : Int} (x : Kr w v g N) (hu : u = N 6) (hne : w.heap.size ≠ g) (a b : Value) :
    ((v.setCell ⟨w.heap.size, 0, none⟩ a).setCell ⟨w.heap.size, 1, none⟩ b).cell? ⟨g, 0, none⟩ = some (.int .i64 (N 0)) ∧ ((v.setCell ⟨w.heap.size, 0, none⟩ a).setCell ⟨w.heap.size, 1, none⟩ b).cell? ⟨g, 1, none⟩ = some (.int .i64 (N 1)) ∧ ((v.setCell ⟨w.heap.size, 0, none⟩ a).setCell ⟨w.heap.size, 1, none⟩ b).cell? ⟨g, 2, none⟩ = some (.int .i64 (N 2)) ∧ ((v.setCell ⟨w.heap.size, 0, none⟩ a).setCell ⟨w.heap.size, 1, none⟩ b).cell? ⟨g, 3, none⟩ = some (.int .i64 (N 3)) ∧ ((v.setCell ⟨w.heap.size, 0, none⟩ a).setCell ⟨w.heap.size, 1, none⟩ b).cell? ⟨g, 4, none⟩ = some (.int .i64 (N 4)) ∧ ((v.setCell ⟨w.heap.size, 0, none⟩ a).setCell ⟨w.heap.size, 1, none⟩ b).cell? ⟨g, 5, none⟩ = some (.int .i64 (N 5)) ∧ ((v.setCell ⟨w.heap.size, 0, none⟩ a).setCell ⟨w.heap.size, 1, none⟩ b).cell? ⟨g, 6, none⟩ = some (.int .i64 u) := by
  have e : ∀ o, ((v.setCell ⟨w.heap.size, 0, none⟩ a).setCell ⟨w.heap.size, 1, none⟩ b).cell? ⟨g, o, none⟩ = v.cell? ⟨g, o, none⟩ := fun o => by
    rw [World.cell?_setCell_other (h := by intro x; injection x with x; exact hne x), World.cell?_setCell_other (h := by intro x; injection x with x; exact hne x)]
  rw [e, e, e, e, e, e, e, hu]
  exact ⟨x.n0, x.n1, x.n2, x.n3, x.n4, x.n5, x.n6⟩
theorem frac_w (u : Int) (u0 : 0 ≤ u) (u1 : u ≤ 999999) (f : Int) (hf : f = (u * 4294967296 + 999999) / 1000000) : IntKind.i64.wrap (u * 4294967296) = u * 4294967296 ∧ IntKind.i64.wrap (u * 4294967296 + 999999) = u * 4294967296 + 999999 ∧ IntKind.i64.wrap ((u * 4294967296 + 999999).tdiv 1000000) = f ∧ IntKind.u32.wrap f = f ∧ 0 ≤ f ∧ f < 4294967296 := by
  have e : (u * 4294967296 + 999999).tdiv 1000000 = (u * 4294967296 + 999999) / 1000000 := Int.tdiv_eq_ediv_of_nonneg (by omega)
  rw [e, ← hf]
  simp only [IntKind.wrap_i64, IntKind.wrap_u32]
  omega
set_option maxRecDepth 20000 in
set_option maxHeartbeats 4000000 in
theorem rparse_walk (s : ByteArray) (w : World) (h26 : s.size = 26) (R : Value → Prop) (HB : Hid (¬ Tx.Ok (Tx.bt s) 26 → R (noD 21))) (HY : Hid (Tx.Ok (Tx.bt s) 26 → R (.tuple #[.agg #[.int .i64 (pE (Tx.bt s)), .int .u64 (pT (Tx.bt s))], .int .i64 (pC (Tx.bt s))]))) :
    Calls Try.prog 11 #[.string s] w fun e w' => ∃ v, e = .returned v ∧ R v ∧ Below w.heap.size w w' := by
  have hb : ((s.size : Int) != 26) = false := by rw [h26]; rfl
  obtain ⟨i0, hi, hz0, hz1, hz2⟩ := info3_parts
  go_enter Try.func11, Try.ntmps11
  go_wp2
  clear hb
  go_loopw [5, 6] (fun n i wr => ∃ (k : Nat) (v : Value), n = v ∧ i = .int .i64 (k : Int) ∧ k ≤ 26 ∧ Hid (Tx.Ok (Tx.bt s) k) ∧ Hid (PS w wr (Tx.bt s) k v)) (fun _ i _ => (26 - intOf i).toNat)
  case atStart => exact ⟨0, _, rfl, rfl, by omega, fun _ h => absurd h (by omega), ⟨World.ownsRow_nil _ _ _ _, (by repeat' (first | with_reducible exact Below.refl _ _ | with_reducible refine Below.setCell ?_ (by first | (simp; done) | (simp; omega) | omega) _ | with_reducible refine below_drewN ?_ _ | with_reducible refine Below.drew ?_ | with_reducible refine Below.alloc ?_ (by first | (simp; done) | (simp; omega) | omega) _)), by simp, by simp, by simp, fun o => by simp⟩⟩
  case round =>
    obtain ⟨k, v, rfl, rfl, hk, hO, hP⟩ := hrel
    by_cases hlt : k < 26
    · have hki : (k : Int) < 26 := by omega
      have hki0 : (0 : Int) ≤ (k : Int) := by omega
      have hform := form_at2 k hlt
      have hbt := Tx.bt_at s k (by omega)
      obtain ⟨b0, b1⟩ := Tx.bt_bd s k
      by_cases hf : Tx.frm k = 48
      · rw [frd_dig hf] at hform
        have HK : Hid (Tx.frm k = 48) := hf
        clear hf
        by_cases hd0 : Tx.bt s k < 48
        · have HE : Hid (Tx.okB (Tx.bt s) k = false) := by show _ = _; rw [Tx.ok_dig HK.out]; simp; omega
          have kD : decide (Tx.bt s k < 48) = true := by rw [decide_eq_true_eq]; exact hd0
          have a0 := hP.out.r0
          have a1 := hP.out.r1
          have af := hP.out.rf
          go_wp2
          go_quiet (fail)
          go_wp2
          refine bodyPost_ret (v := noD 21) (by simp [results, Try.results11, go_sem, noD, a0, a1]) rfl ⟨_, rfl, HB.out (fun x => by have := x k hlt; rw [HE.out] at this; cases this), ?_⟩
          exact (by repeat' (first | with_reducible exact Below.refl _ _ | with_reducible exact hP.out.bel | with_reducible refine Below.setCell ?_ (by first | (simp; done) | (simp; omega) | omega) _ | with_reducible refine below_drewN ?_ _ | with_reducible refine Below.drew ?_ | with_reducible refine Below.alloc ?_ (by first | (simp; done) | (simp; omega) | omega) _))
        by_cases hd1 : 57 < Tx.bt s k
        · have HE : Hid (Tx.okB (Tx.bt s) k = false) := by show _ = _; rw [Tx.ok_dig HK.out]; simp; omega
          have kD : decide (Tx.bt s k < 48) = false := by rw [decide_eq_false_iff_not]; exact hd0
          have kE : decide (57 < Tx.bt s k) = true := by rw [decide_eq_true_eq]; exact hd1
          have a0 := hP.out.r0
          have a1 := hP.out.r1
          have af := hP.out.rf
          go_wp2
          go_quiet (fail)
          go_wp2
          refine bodyPost_ret (v := noD 21) (by simp [results, Try.results11, go_sem, noD, a0, a1]) rfl ⟨_, rfl, HB.out (fun x => by have := x k hlt; rw [HE.out] at this; cases this), ?_⟩
          exact (by repeat' (first | with_reducible exact Below.refl _ _ | with_reducible exact hP.out.bel | with_reducible refine Below.setCell ?_ (by first | (simp; done) | (simp; omega) | omega) _ | with_reducible refine below_drewN ?_ _ | with_reducible refine Below.drew ?_ | with_reducible refine Below.alloc ?_ (by first | (simp; done) | (simp; omega) | omega) _))
        · have HE : Hid (Tx.okB (Tx.bt s) k = true) := by show _ = _; rw [Tx.ok_dig HK.out]; simp; omega
          have kD : decide (Tx.bt s k < 48) = false := by rw [decide_eq_false_iff_not]; exact hd0
          have kE : decide (57 < Tx.bt s k) = false := by rw [decide_eq_false_iff_not]; exact hd1
          have c0 : 48 ≤ Tx.bt s k := by omega
          have c1 : Tx.bt s k ≤ 57 := by omega
          have hbg : (Tx.bg k : Int) ≤ 7 := by have := Tx.bg_le k (by omega); omega
          clear hd0 hd1
          cases hn : Tx.isNew k
          · have HN : Hid (Tx.isNew k = false) := hn
            clear hn
            obtain ⟨o1, o2⟩ := Tx.old_0 k hlt HN.out
            have kZ : ((k : Int) == 0) = false := by rw [beq_eq_false_iff_ne]; omega
            obtain ⟨j, hj⟩ : ∃ j, j = k - 1 := ⟨_, rfl⟩
            rw [← hj] at o2
            have ej : (k : Int) - 1 = (j : Int) := by omega
            have hj1 : (j : Int) < 26 := by omega
            have hj2 : j < 26 := by omega
            have hform1 := form_at2 j hj2
            rw [frd_dig o2] at hform1
            clear o1 o2 hj
            go_wp2
            go_quiet (fail)
            obtain ⟨W1, hW1⟩ : ∃ W1, W1 = wr.drewN nq := ⟨_, rfl⟩
            have hP1 : Hid (PS w W1 (Tx.bt s) (k) u5) := by show PS _ _ _ _ _; rw [hW1]; exact hP.out.drewN nq
            rw [← hW1]
            clear hW1 hP
            have ofl := Tx.old_fl k hlt HK.out HN.out
            obtain ⟨g, cap, rfl, hg1, hg2⟩ := hP1.out.own.form (by omega)
            have hv := Tx.nv_bd hO.out (Tx.fl k)
            have hp := Tx.pow_le5 _ (Tx.dc_room k hlt HK.out)
            have hcell := hP1.out.own.cellAt (Tx.fl k) (by omega)
            rw [Tx.vs_at _ _ k _ (by omega)] at hcell
            have hfz := hP1.out.own.frozenAt (Tx.fl k)
            have st : Hid _ := hP1.out.store hlt HK.out HN.out
            have hcl : (Tx.bg k : Int) ≤ cap := by
              rcases hP1.out.own.2 with ⟨h', _⟩ | ⟨g', cap', cur, h', _, _, hnc, _⟩
              · simp at h'
              · simp only [Value.slice.injEq, Option.some.injEq, Addr.mk.injEq, and_true, true_and] at h'
                omega
            obtain ⟨x, hx⟩ : ∃ x, x = Tx.nv (Tx.bt s) k (Tx.fl k) := ⟨_, rfl⟩
            rw [← hx] at hv hcell st
            obtain ⟨F, hF⟩ : ∃ F, F = Tx.fl k := ⟨_, rfl⟩
            rw [← hF] at ofl hcell hfz st
            obtain ⟨L, hL⟩ : ∃ L, L = Tx.bg k := ⟨_, rfl⟩
            rw [← hL] at ofl st hcl hbg ⊢
            have x0 : 0 ≤ x := hv.1
            have x1 : x ≤ 99999 := by omega
            have eL : (L : Int) - 1 = (F : Int) := by omega
            have F0 : (F : Int) < (L : Int) := by omega
            have F1 : (F : Int) < 7 := by omega
            have HL : Hid (L = Tx.bg k) := hL
            clear hv hp hx hF ofl hg1 hL hP1
            go_wp2_with fail
            go_region
            go_wp2
            exact ⟨⟨k + 1, _, rfl, by go_num, by omega, hO.out.step HE.out, st.out.drewN 1⟩, by simp [intOf]; omega⟩
          · have HN : Hid (Tx.isNew k = true) := hn
            clear hn
            rcases Tx.new_0 k hlt HN.out with hz | ⟨o1, o2⟩
            · have kZ : ((k : Int) == 0) = true := by rw [beq_iff_eq]; omega
              clear hz
              go_wp2
              go_quiet (fail)
              obtain ⟨W1, hW1⟩ : ∃ W1, W1 = wr.drewN nq := ⟨_, rfl⟩
              have hP1 : Hid (PS w W1 (Tx.bt s) (k) u5) := by show PS _ _ _ _ _; rw [hW1]; exact hP.out.drewN nq
              rw [← hW1]
              clear hW1 hP
              obtain ⟨nl, hnl⟩ : ∃ nl, nl = Tx.bg (k) := ⟨_, rfl⟩
              have HNL : Hid (nl = Tx.bg (k)) := hnl
              have hO1 : Hid (W1.ownsRow (w.heap.size + 1) 3 1 u5 nl (Tx.vs (Value.int .i64) (Tx.bt s) (k))) := by show World.ownsRow _ _ _ _ _ _ _; rw [hnl]; exact hP1.out.own
              have hnl7 : nl ≤ 7 := by omega
              clear hnl hbg
              go_wp2_with (at_builtin; refine wpList_append_lies _ (by rfl) _ _ 57 (by rfl) (w.heap.size + 1) 3 i0 (.int .i64 0) 1 8 Try.underlying57 hi hz0 hz1 hz2 rfl (by decide) u5 nl _ (by rfl) (hO1.out.alloc _) ⟨W1.heap.size, 0, none⟩ 1 1 [.int .i64 (Tx.bt s (k) - 48)] (by rfl) (by rfl) (World.news_of_block (heap_alloc_new W1 _)) (by simp [Value.oneCell']) (by decide) (by unfold maxLen; omega) (by omega) (by have := hP1.out.top; simp; omega) (W1.heap.size + 1) (by simp) ?_)
              intro g cap w2 hown hgrow hat hlt2
              have PS2 : Hid (PS w w2 (Tx.bt s) (k + 1) (.slice (some ⟨g, 0, none⟩) (nl + 1) cap)) := hP1.out.grow _ hlt HK.out HN.out (by rw [← HNL.out]; exact hown) hgrow
              clear hown hgrow hat hlt2 hO1
              go_wp2
              exact ⟨⟨k + 1, _, rfl, by go_num, by omega, hO.out.step HE.out, PS2.out⟩, by simp [intOf]; omega⟩
            · have kZ : ((k : Int) == 0) = false := by rw [beq_eq_false_iff_ne]; omega
              obtain ⟨j, hj⟩ : ∃ j, j = k - 1 := ⟨_, rfl⟩
              rw [← hj] at o2
              have ej : (k : Int) - 1 = (j : Int) := by omega
              have hj1 : (j : Int) < 26 := by omega
              have hj2 : j < 26 := by omega
              have hform1 := form_at2 j hj2
              obtain ⟨x1, x2⟩ := frd_sep j (by omega) o2
              rw [x1] at hform1
              have kY : ((Tx.frm j : Int) != 100) = true := by rw [bne_iff_ne]; omega
              clear o1 o2 x1 x2 hj
              go_wp2
              go_quiet (fail)
              obtain ⟨W1, hW1⟩ : ∃ W1, W1 = wr.drewN nq := ⟨_, rfl⟩
              have hP1 : Hid (PS w W1 (Tx.bt s) (k) u5) := by show PS _ _ _ _ _; rw [hW1]; exact hP.out.drewN nq
              rw [← hW1]
              clear hW1 hP
              obtain ⟨nl, hnl⟩ : ∃ nl, nl = Tx.bg (k) := ⟨_, rfl⟩
              have HNL : Hid (nl = Tx.bg (k)) := hnl
              have hO1 : Hid (W1.ownsRow (w.heap.size + 1) 3 1 u5 nl (Tx.vs (Value.int .i64) (Tx.bt s) (k))) := by show World.ownsRow _ _ _ _ _ _ _; rw [hnl]; exact hP1.out.own
              have hnl7 : nl ≤ 7 := by omega
              clear hnl hbg
              go_wp2_with (at_builtin; refine wpList_append_lies _ (by rfl) _ _ 57 (by rfl) (w.heap.size + 1) 3 i0 (.int .i64 0) 1 8 Try.underlying57 hi hz0 hz1 hz2 rfl (by decide) u5 nl _ (by rfl) (hO1.out.alloc _) ⟨W1.heap.size, 0, none⟩ 1 1 [.int .i64 (Tx.bt s (k) - 48)] (by rfl) (by rfl) (World.news_of_block (heap_alloc_new W1 _)) (by simp [Value.oneCell']) (by decide) (by unfold maxLen; omega) (by omega) (by have := hP1.out.top; simp; omega) (W1.heap.size + 1) (by simp) ?_)
              intro g cap w2 hown hgrow hat hlt2
              have PS2 : Hid (PS w w2 (Tx.bt s) (k + 1) (.slice (some ⟨g, 0, none⟩) (nl + 1) cap)) := hP1.out.grow _ hlt HK.out HN.out (by rw [← HNL.out]; exact hown) hgrow
              clear hown hgrow hat hlt2 hO1
              go_wp2
              exact ⟨⟨k + 1, _, rfl, by go_num, by omega, hO.out.step HE.out, PS2.out⟩, by simp [intOf]; omega⟩
      · have HK : Hid (Tx.frm k ≠ 48) := hf
        obtain ⟨q1, q2⟩ := frd_sep k hlt hf
        rw [q1] at hform
        have kA : ((Tx.frm k : Int) == 100) = false := by rw [beq_eq_false_iff_ne]; omega
        have kB : ((Tx.frm k : Int) != 100) = true := by rw [bne_iff_ne]; omega
        clear hf q1 q2
        by_cases he : Tx.bt s k = Tx.frm k
        · have HE : Hid (Tx.okB (Tx.bt s) k = true) := by show _ = _; rw [Tx.ok_sep HK.out]; simpa using he
          have kC : (Tx.bt s k != (Tx.frm k : Int)) = false := by rw [bne_eq_false_iff_eq]; exact he
          clear he
          go_wp2
          go_quiet (fail)
          go_wp2
          exact ⟨⟨k + 1, _, rfl, by go_num, by omega, hO.out.step HE.out, (hP.out.sep hlt HK.out).drewN nq⟩, by simp [intOf]; omega⟩
        · have HE : Hid (Tx.okB (Tx.bt s) k = false) := by show _ = _; rw [Tx.ok_sep HK.out]; simpa using he
          have kC : (Tx.bt s k != (Tx.frm k : Int)) = true := by rw [bne_iff_ne]; exact he
          have a0 := hP.out.r0
          have a1 := hP.out.r1
          have af := hP.out.rf
          clear he
          go_wp2
          go_quiet (fail)
          go_wp2
          refine bodyPost_ret (v := noD 21) (by simp [results, Try.results11, go_sem, noD, a0, a1]) rfl ⟨_, rfl, HB.out (fun x => by have := x k hlt; rw [HE.out] at this; cases this), ?_⟩
          exact (by repeat' (first | with_reducible exact Below.refl _ _ | with_reducible exact hP.out.bel | with_reducible refine Below.setCell ?_ (by first | (simp; done) | (simp; omega) | omega) _ | with_reducible refine below_drewN ?_ _ | with_reducible refine Below.drew ?_ | with_reducible refine Below.alloc ?_ (by first | (simp; done) | (simp; omega) | omega) _))
    · have e : k = 26 := by omega
      subst e
      obtain ⟨g, cap, rfl, hg1, hg2⟩ := hP.out.own.form (by rw [Tx.bg_26]; omega)
      have n0 := hP.out.own.cellAt 0 (by rw [Tx.bg_26]; omega)
      have n1 := hP.out.own.cellAt 1 (by rw [Tx.bg_26]; omega)
      have n2 := hP.out.own.cellAt 2 (by rw [Tx.bg_26]; omega)
      have n3 := hP.out.own.cellAt 3 (by rw [Tx.bg_26]; omega)
      have n4 := hP.out.own.cellAt 4 (by rw [Tx.bg_26]; omega)
      have n5 := hP.out.own.cellAt 5 (by rw [Tx.bg_26]; omega)
      have n6 := hP.out.own.cellAt 6 (by rw [Tx.bg_26]; omega)
      rw [Tx.vs_at _ _ 26 _ (by rw [Tx.bg_26]; omega)] at n0 n1 n2 n3 n4 n5 n6
      have hub := Tx.nv_lt hO.out (by omega) 6 (by omega)
      have K : Hid (Kr w wr g (Tx.nv (Tx.bt s) 26)) := ⟨hP.out.bel, hP.out.top, hg2, hP.out.r0, hP.out.r1, hP.out.rf, n0, n1, n2, n3, n4, n5, n6⟩
      have hcl : (7 : Int) ≤ cap := by
        rcases hP.out.own.2 with ⟨h', _⟩ | ⟨g', cap', cur, h', _, _, hnc, _⟩
        · simp at h'
        · simp only [Value.slice.injEq, Option.some.injEq, Addr.mk.injEq, and_true, true_and] at h'
          rw [Tx.bg_26] at hnc
          omega
      rw [Tx.bg_26]
      generalize hN : Tx.nv (Tx.bt s) 26 = N at *
      have HN : Hid (Tx.nv (Tx.bt s) 26 = N) := hN
      obtain ⟨u0, u1⟩ := hub
      obtain ⟨u, hu⟩ : ∃ u, u = N 6 := ⟨_, rfl⟩
      rw [← hu] at u0 u1 n6
      have HU : Hid (u = N 6) := hu
      have hne : w.heap.size ≠ g := by omega
      have HNE : Hid (w.heap.size ≠ g) := hne
      obtain ⟨fv, hfv⟩ : ∃ fv, fv = (u * 4294967296 + 999999) / 1000000 := ⟨_, rfl⟩
      obtain ⟨v1, v2, v3, v4, v5, v6⟩ := frac_w u u0 u1 fv hfv
      have HFV : Hid (fv = (u * 4294967296 + 999999) / 1000000) := hfv
      clear hN hu hP hg1 hne hfv
      have q0 := K.out.r0
      have q1 := K.out.r1
      have qf := K.out.rf
      have HR : Hid (R (.tuple #[.agg #[.int .i64 (dE (N 0) (N 1) (N 2) (N 3) (N 4) (N 5)), .int .u64 (dT (N 0) (N 1) (N 2) (N 3) (N 4) (N 5) fv)], .int .i64 (dC (N 0) (N 1) (N 2) (N 3) (N 4) (N 5))])) := by
        have y := HY.out hO.out
        unfold pE pT pC at y
        rw [HN.out, ← HU.out, ← HFV.out] at y
        exact y
      go_wp2_with fail
      clear q0 q1 qf n0 n1 n2 n3 n4 n5 n6
      go_region_held3 (fun w' => w'.cell? ⟨g, 0, none⟩ = some (.int .i64 (N 0)) ∧ w'.cell? ⟨g, 1, none⟩ = some (.int .i64 (N 1)) ∧ w'.cell? ⟨g, 2, none⟩ = some (.int .i64 (N 2)) ∧ w'.cell? ⟨g, 3, none⟩ = some (.int .i64 (N 3)) ∧ w'.cell? ⟨g, 4, none⟩ = some (.int .i64 (N 4)) ∧ w'.cell? ⟨g, 5, none⟩ = some (.int .i64 (N 5)) ∧ w'.cell? ⟨g, 6, none⟩ = some (.int .i64 u)) (first | exact ⟨K.out.n0, K.out.n1, K.out.n2, K.out.n3, K.out.n4, K.out.n5, HU.out ▸ K.out.n6⟩ | exact K.out.far HU.out HNE.out _ _ | go_keep)
        ((go_at_call 23; refine (rtoDate_any _ _ _ _ _ _ _ _ v5 v6).mono ?_; rintro r w2 ⟨rfl, hb⟩; have K2 : Hid (Kr w w2 g N) := (by first | exact K.out.step0 hb | exact K.out.step1 hb); clear hb K; have K := K2; clear K2; have q0 := K.out.r0; have q1 := K.out.r1; have qf := K.out.rf))
      all_goals
        go_wp2
        exact bodyPost_ret (v := .tuple #[.agg #[.int .i64 (dE (N 0) (N 1) (N 2) (N 3) (N 4) (N 5)), .int .u64 (dT (N 0) (N 1) (N 2) (N 3) (N 4) (N 5) fv)], .int .i64 (dC (N 0) (N 1) (N 2) (N 3) (N 4) (N 5))]) (by simp [results, Try.results11, go_sem, q0, q1]) rfl ⟨_, rfl, HR.out, (by repeat' (first | with_reducible exact Below.refl _ _ | with_reducible exact K.out.bel | with_reducible refine Below.setCell ?_ (by first | (simp; done) | (simp; omega) | omega) _ | with_reducible refine below_drewN ?_ _ | with_reducible refine Below.drew ?_ | with_reducible refine Below.alloc ?_ (by first | (simp; done) | (simp; omega) | omega) _))⟩
/-- what a text says, in three numbers -/
def xE (s : ByteArray) : Int := if okS s then pE (Tx.bt s) else 0
def xT (s : ByteArray) : Int := if okS s then pT (Tx.bt s) else 0
def xC (s : ByteArray) : Int := if okS s then pC (Tx.bt s) else 21
theorem x_yes {s : ByteArray} (h : OkS s) : Value.tuple #[.agg #[.int .i64 (pE (Tx.bt s)), .int .u64 (pT (Tx.bt s))], .int .i64 (pC (Tx.bt s))] = .tuple #[.agg #[.int .i64 (xE s), .int .u64 (xT s)], .int .i64 (xC s)] := by
  unfold xE xT xC; rw [okS_t h]; rfl
theorem x_no {s : ByteArray} (h : ¬ OkS s) : noD 21 = .tuple #[.agg #[.int .i64 (xE s), .int .u64 (xT s)], .int .i64 (xC s)] := by
  unfold xE xT xC noD; rw [okS_f h]; rfl
theorem parse_all (s : ByteArray) (w : World) :
    Calls Try.prog 10 #[.string s] w fun e w' => e = .returned (.tuple #[.agg #[.int .i64 (xE s), .int .u64 (xT s)], .int .i64 (xC s)]) ∧ Below w.heap.size w w' := by
  by_cases h : OkS s
  · refine (parse_good s w h).mono ?_
    rintro e w' ⟨rfl, hb⟩
    exact ⟨by rw [x_yes h], hb⟩
  · refine (parse_bad s w h).mono ?_
    rintro e w' ⟨rfl, hb⟩
    exact ⟨by rw [x_no h], hb⟩
theorem rparse_all (s : ByteArray) (w : World) :
    Calls Try.prog 11 #[.string s] w fun e w' => e = .returned (.tuple #[.agg #[.int .i64 (xE s), .int .u64 (xT s)], .int .i64 (xC s)]) ∧ Below w.heap.size w w' := by
  by_cases h26 : s.size = 26
  · refine (rparse_walk s w h26 (fun v => v = .tuple #[.agg #[.int .i64 (xE s), .int .u64 (xT s)], .int .i64 (xC s)]) (fun h => x_no (fun x => h x.2)) (fun h => x_yes ⟨h26, h⟩)).mono ?_
    rintro e w' ⟨v, rfl, rfl, hb⟩
    exact ⟨rfl, hb⟩
  · refine (rparse_short s w h26).mono ?_
    rintro e w' ⟨rfl, hb⟩
    exact ⟨by rw [x_no (fun x => h26 x.1)], hb⟩
end Go.Proofs.Ytifaneckfnjgiab
