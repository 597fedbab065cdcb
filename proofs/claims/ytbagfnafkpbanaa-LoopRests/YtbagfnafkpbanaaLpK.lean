/- LoopScript, walked. -/
import Derived.Test.YtbagfnafkpbanaaLpJ
namespace Go.Proofs.Ytbagfnafkpbanaa
open Go Go.RowKit Go.Sort
set_option linter.unusedVariables false
/-- the program's and the reference's, the same -/
structure Wr (w : World) (g : Nat) (c : Array Value) (p q : Nat) (s : Lp) (u : World) : Prop where
  wl : Wl w g c p s u
  rp : Rp u q s
  np : q ≠ p
  ng : q ≠ g
  lq : w.heap.size ≤ q
theorem Wr.drewN {w u : World} {g p q : Nat} {c : Array Value} {s : Lp} (h : Wr w g c p q s u) (n : Nat) : Wr w g c p q s (u.drewN n) := ⟨h.wl.drewN n, Bk.kept h.rp rfl, h.np, h.ng, h.lq⟩
theorem Wr.thru {w u u' : World} {g p q : Nat} {c : Array Value} {s : Lp} (h : Wr w g c p q s u) (hb : Below u.heap.size u u') : Wr w g c p q s u' := ⟨h.wl.thru hb, h.rp.below hb (Bk.lt h.rp), h.np, h.ng, h.lq⟩
theorem Wr.alloc {w u : World} {g p q : Nat} {c : Array Value} {s : Lp} (h : Wr w g c p q s u) (o : Obj) : Wr w g c p q s (u.alloc o) := h.thru ((Below.refl _ _).alloc (Nat.le_refl _) _)
theorem Wr.mods {w u u1 u2 : World} {g p q : Nat} {c : Array Value} {s s' : Lp} (h : Wr w g c p q s u) (h1 : Po u1 p s') (g1 : u.grownBy u1 (some p)) (h2 : Rp u2 q s') (g2 : u1.grownBy u2 (some q)) : Wr w g c p q s' u2 :=
  ⟨(h.wl.mod h1 g1).other g2 h.lq h.np h.ng, h2, h.np, h.ng, h.lq⟩
theorem wr_new {w u : World} {g p : Nat} {c : List Value} {st pa so : Int} {s : Lp} (hc : Cg c st pa so) (hw : Wl w g c.toArray p s u) (f : Int) (has : Bool) (hf : -9223372036854775808 ≤ f ∧ f ≤ 9223372036854775807) (hs : newS st pa so f has = s) : Calls Try.prog 13 #[.agg c.toArray, .int .i64 f, .bool has] u fun e w' => ∃ q, e = .returned (.pointer (some ⟨q, 0, none⟩)) ∧ Wr w g c.toArray p q s w' := by
  subst hs
  refine (rnew_any c st pa so f has u hc hf).mono ?_
  rintro e w' ⟨q, h1, h2⟩
  have l1 := Bk.lt hw.po
  have l2 := hw.ck.lt
  have l3 := h2.hq
  exact ⟨q, h1, hw.thru h2.be, h2.rp, by omega, by omega, Nat.le_trans hw.be.size h2.hq⟩
set_option maxHeartbeats 1000000 in
theorem same_any {w u : World} {g p q : Nat} {c : Array Value} {s : Lp} (h : Wr w g c p q s u) : Calls Try.prog 18 #[.pointer (some ⟨p, 0, none⟩), .pointer (some ⟨q, 0, none⟩)] u fun e w' => e = .returned (.bool true) ∧ Wr w g c p q s w' := by
  have HP : Hid (Wr w g c p q s u) := h
  have c3 : u.cell? ⟨q, 3, none⟩ = some (.int .i64 s.st) := h.rp.cell 3
  have c4 : u.cell? ⟨q, 4, none⟩ = some (.int .i64 s.rate) := h.rp.cell 4
  have c5 : u.cell? ⟨q, 5, none⟩ = some (.int .i64 s.left) := h.rp.cell 5
  have c8 : u.cell? ⟨q, 8, none⟩ = some (.int .i64 s.exp) := h.rp.cell 8
  clear h
  go_enter Try.func18, Try.ntmps18
  go_wp2_with fail
  go_quiet (first
    | (go_at_call 12; exact Calls.quiet_of_same (freq_any p s _ (HP.out.drewN _).wl.po))
    | (go_at_call 15; exact Calls.quiet_of_same (state_any p s _ (HP.out.drewN _).wl.po))
    | (go_at_call 16; exact Calls.quiet_of_same (poll_any p s _ (HP.out.drewN _).wl.po))
    | (go_at_call 11; exact Calls.quiet_of_same (left_any p s _ (HP.out.drewN _).wl.po)))
  go_wp2
  go_ret
  exact ⟨rfl, HP.out.drewN _⟩
set_option maxHeartbeats 2000000 in
theorem LoopScript_row (c : List Value) (f : Int) (has : Bool) (v : Value) (st pa so : Int) (ss : List Stp) (w : World) (hc : Cg c st pa so) (hf : -9223372036854775808 ≤ f ∧ f ≤ 9223372036854775807) (hv : Sp w.heap.size w v ss) :
    Calls Try.prog 4 #[.agg c.toArray, .int .i64 f, .bool has, v] w fun e w' => e = .returned (.bool true) ∧ Below w.heap.size w w' := by
  obtain ⟨ao, cap, rfl, -⟩ := hv.ex
  obtain ⟨n, hn⟩ : ∃ n, n = ss.length := ⟨_, rfl⟩
  rw [← hn] at hv ⊢
  have HV : Hid (Sp w.heap.size w (.slice ao n cap) ss ∧ n = ss.length) := ⟨hv, hn⟩
  have HG : Hid (Cg c st pa so ∧ (-9223372036854775808 ≤ f ∧ f ≤ 9223372036854775807) ∧ (Try.prog.info? 29).map (·.size) = some c.length) := ⟨hc, hf, by rw [hc.len]; kernel_rfl⟩
  clear hv hn hc hf
  go_enter Try.func4, Try.ntmps4
  refine post_hid fun Q hQ => ?_
  refine seq_hid fun R hR => ?_
  go_wp2_with (refine step_boxL (by rfl) 29 _ rfl c.toArray (by rfl) (fun u => by rfl) ?_; intro W g HW)
  rw [hR.out]
  clear hR
  have HC : Hid (∀ j u, c[j]? = some u → W.cell? ((⟨g, 0, none⟩ : Addr).add j) = some u) := cells_of HW.out.bk
  by_cases hlen : 16384 < (n : Int)
  · go_wp2_with fail
    rw [hQ.out]
    go_ret
    exact ⟨rfl, HW.out.be⟩
  refine seq_hid fun R hR => ?_
  go_wp2_with fail
  rw [hR.out]
  clear hR
  obtain ⟨s0, hs0⟩ : ∃ s0, newS st pa so f has = s0 := ⟨_, rfl⟩
  have HO : Hid (OkL s0 ∧ newS st pa so f has = s0) := ⟨by rw [← hs0]; exact OkL.new _ _ _ _ _, hs0⟩
  clear hs0
  have HN := wl_new HG.out.1 HW.out.bk HW.out.be (by rw [HW.out.at']; exact Nat.le_refl _) f has
  rw [HO.out.2] at HN
  have HN : Hid (Calls Try.prog 9 #[.agg c.toArray, .int .i64 f, .bool has] W _) := HN
  refine seq_hid fun R hR => ?_
  go_wp2_with (first
    | (refine step_ldat 29 _ rfl rfl ⟨g, 0, none⟩ (by rfl) c _ Try.underlying29 rfl HG.out.2.2 HC.out ?_)
    | (go_at_call 9; refine HN.out.mono ?_; rintro e w1 ⟨p, rfl, hp1, hp2, hb1⟩; have H1 : Hid (Wl w g c.toArray p s0 w1) := hp1; clear hp1 hp2 hb1))
  rw [hR.out]
  clear hR HN HC
  have HC : Hid (∀ j u, c[j]? = some u → w1.cell? ((⟨g, 0, none⟩ : Addr).add j) = some u) := cells_of H1.out.ck
  have HN : Hid (Calls Try.prog 13 #[.agg c.toArray, .int .i64 f, .bool has] w1 _) := wr_new HG.out.1 H1.out f has HG.out.2.1 HO.out.2
  refine seq_hid fun R hR => ?_
  go_wp2_with (first
    | (refine step_ldat 29 _ rfl rfl ⟨g, 0, none⟩ (by rfl) c _ Try.underlying29 rfl HG.out.2.2 HC.out ?_)
    | (go_at_call 13; refine HN.out.mono ?_; rintro e w2 ⟨q, rfl, hq⟩; have H2 : Hid (Wr w g c.toArray p q s0 w2) := hq; clear hq))
  rw [hR.out]
  clear hR HN HC HW H1
  refine seq_hid fun R hR => ?_
  go_wp2_with (go_at_call 18; refine (same_any H2.out).mono ?_; rintro e w3 ⟨rfl, h3⟩; have Hw3 : Hid (Wr w g c.toArray p q s0 w3) := h3; clear h3)
  rw [hR.out]
  clear hR H2
  go_wp2_with fail
  go_loopw [11] (fun i wr => ∃ (k : Nat) (s : Lp), i = .int .i64 k ∧ (k : Int) ≤ n ∧ Hid (Wr w g c.toArray p q s wr ∧ OkL s)) (fun i _ => n - (intOf i).toNat)
  case atStart => exact ⟨0, s0, rfl, by omega, ⟨Hw3.out, HO.out.1⟩⟩
  case round =>
    obtain ⟨k, s, rfl, hk, HS⟩ := hrel
    by_cases hlt : (k : Int) < n
    · have hkx : k < ss.length := by have := HV.out.2; omega
      obtain ⟨ad, hix, hab, hac, hok⟩ := (HV.out.1.below HS.out.1.wl.be (Nat.le_refl _)).at k hkx
      obtain ⟨y, hy⟩ : ∃ y, y = ss.getD k z15 := ⟨_, rfl⟩
      rw [← hy] at hac hok
      have HY : Hid ((∀ j u, (spL y)[j]? = some u → wr.cell? (ad.add j) = some u) ∧ OkP y) := ⟨hac, hok⟩
      clear hac hab hy hkx hok
      obtain ⟨yk, yo, yj, yn⟩ := y
      refine seq_hid fun R hR => ?_
      go_wp2_with fail
      rw [hR.out]
      clear hR
      have HB : Hid (Wr w g c.toArray p q s (wr.alloc (.cells #[.int .i64 yk, .int .i64 yo, .int .i64 yj, .int .i64 yn] 43)) ∧ Bk wr.heap.size (wr.alloc (.cells #[.int .i64 yk, .int .i64 yo, .int .i64 yj, .int .i64 yn] 43)) (spL ⟨yk, yo, yj, yn⟩).toArray 43 ∧ wr.heap.size ≠ p ∧ wr.heap.size ≠ q) := by
        have l1 := Bk.lt HS.out.1.wl.po
        have l2 := Bk.lt HS.out.1.rp
        exact ⟨HS.out.1.alloc _, Bk.new _ _ _, by omega, by omega⟩
      by_cases e0 : yk = 0
      · subst e0
        obtain ⟨A, hA⟩ : ∃ A, (upd s yo yj yn).2.1 = A := ⟨_, rfl⟩
        obtain ⟨X, hX⟩ : ∃ X, (upd s yo yj yn).2.2 = X := ⟨_, rfl⟩
        obtain ⟨S, hS⟩ : ∃ S, (upd s yo yj yn).1 = S := ⟨_, rfl⟩
        have KU : Hid ((∀ u, Po u p s → Calls Try.prog 14 #[.pointer (some ⟨p, 0, none⟩), .int .i64 yo, .int .i64 yj, .int .i64 yn] u fun e w' => e = .returned (.tuple #[.int .i64 A, .int .i64 X]) ∧ Po w' p S ∧ u.grownBy w' (some p)) ∧ (∀ u, Rp u q s → Calls Try.prog 19 #[.pointer (some ⟨q, 0, none⟩), .int .i64 yo, .int .i64 yj, .int .i64 yn] u fun e w' => e = .returned (.tuple #[.int .i64 A, .int .i64 X]) ∧ Rp w' q S ∧ u.grownBy w' (some q)) ∧ OkL S) := by
          rw [← hA, ← hX, ← hS]
          exact ⟨fun u hu => update_any p s yo yj yn u hu HS.out.2 HY.out.2.o HY.out.2.j, fun u hu => rupdate_any q s yo yj yn u hu HS.out.2 HY.out.2.o HY.out.2.j, HS.out.2.upd _ _ _⟩
        clear hA hX hS
        go_wp2_with (first
          | (refine step_ldat 43 _ rfl rfl ad (by rfl) [.int .i64 0, .int .i64 yo, .int .i64 yj, .int .i64 yn] _ Try.underlying43 rfl (by kernel_rfl) HY.out.1 ?_)
          | (go_at_call 14; refine (KU.out.1 _ HB.out.1.wl.po).mono ?_; rintro e u1 ⟨rfl, h1, g1⟩; have H1 : Hid (Po u1 p S ∧ (wr.alloc (.cells #[.int .i64 0, .int .i64 yo, .int .i64 yj, .int .i64 yn] 43)).grownBy u1 (some p) ∧ Bk wr.heap.size u1 (spL ⟨0, yo, yj, yn⟩).toArray 43 ∧ Rp u1 q s) := ⟨h1, g1, HB.out.2.1.kept (g1.block _ HB.out.2.1.lt (fun e => HB.out.2.2.1 (Option.some.inj e))), HB.out.1.rp.other g1 HB.out.1.np⟩; clear h1 g1; have y1 : u1.cell? ⟨wr.heap.size, 1, none⟩ = some (.int .i64 yo) := (H1.out.2.2.1.cell 1); have y2 : u1.cell? ⟨wr.heap.size, 2, none⟩ = some (.int .i64 yj) := (H1.out.2.2.1.cell 2); have y3 : u1.cell? ⟨wr.heap.size, 3, none⟩ = some (.int .i64 yn) := (H1.out.2.2.1.cell 3))
          | (go_at_call 19; refine (KU.out.2.1 _ H1.out.2.2.2).mono ?_; rintro e u2 ⟨rfl, h2, g2⟩; have H2 : Hid (Wr w g c.toArray p q S u2) := (HB.out.1.mods H1.out.1 H1.out.2.1 h2 g2); clear h2 g2 y1 y2 y3)
          | (go_at_call 18; refine (same_any H2.out).mono ?_; rintro e u3 ⟨rfl, h3⟩; have H3 : Hid (Wr w g c.toArray p q S u3) := h3; clear h3))
        go_roundw
        case rel => exact ⟨k + 1, S, by go_num, by omega, ⟨H3.out, KU.out.2.2⟩⟩
        case measure => simp [intOf]; omega
      by_cases e1 : yk = 1
      · subst e1
        have HT : Hid ((∀ u, Po u p s → Calls Try.prog 10 #[.pointer (some ⟨p, 0, none⟩)] u fun e w' => e = .returned (.int .i64 (tkX s)) ∧ Po w' p (ticS s) ∧ u.grownBy w' (some p)) ∧ (∀ u, Rp u q s → Calls Try.prog 20 #[.pointer (some ⟨q, 0, none⟩)] u fun e w' => e = .returned (.int .i64 (tkX s)) ∧ Rp w' q (ticS s) ∧ u.grownBy w' (some q))) := ⟨fun u hu => tick_any p s u hu HS.out.2, fun u hu => rtick_any q s u hu HS.out.2⟩
        go_wp2_with (first
          | (refine step_ldat 43 _ rfl rfl ad (by rfl) [.int .i64 1, .int .i64 yo, .int .i64 yj, .int .i64 yn] _ Try.underlying43 rfl (by kernel_rfl) HY.out.1 ?_)
          | (go_at_call 10; refine (HT.out.1 _ HB.out.1.wl.po).mono ?_; rintro e u1 ⟨rfl, h1, g1⟩; have H1 : Hid (Po u1 p (ticS s) ∧ (wr.alloc (.cells #[.int .i64 1, .int .i64 yo, .int .i64 yj, .int .i64 yn] 43)).grownBy u1 (some p) ∧ Rp u1 q s) := ⟨h1, g1, HB.out.1.rp.other g1 HB.out.1.np⟩; clear h1 g1)
          | (go_at_call 20; refine (HT.out.2 _ H1.out.2.2).mono ?_; rintro e u2 ⟨rfl, h2, g2⟩; have H2 : Hid (Wr w g c.toArray p q (ticS s) u2) := (HB.out.1.mods H1.out.1 H1.out.2.1 h2 g2); clear h2 g2)
          | (go_at_call 18; refine (same_any H2.out).mono ?_; rintro e u3 ⟨rfl, h3⟩; have H3 : Hid (Wr w g c.toArray p q (ticS s) u3) := h3; clear h3))
        go_roundw
        case rel => exact ⟨k + 1, ticS s, by go_num, by omega, ⟨H3.out, HS.out.2.tic⟩⟩
        case measure => simp [intOf]; omega
      · go_wp2_with (first
          | (refine step_ldat 43 _ rfl rfl ad (by rfl) [.int .i64 yk, .int .i64 yo, .int .i64 yj, .int .i64 yn] _ Try.underlying43 rfl (by kernel_rfl) HY.out.1 ?_)
          | (go_at_call 18; refine (same_any HB.out.1).mono ?_; rintro e u3 ⟨rfl, h3⟩; have H3 : Hid (Wr w g c.toArray p q s u3) := h3; clear h3))
        go_roundw
        case rel => exact ⟨k + 1, s, by go_num, by omega, ⟨H3.out, HS.out.2⟩⟩
        case measure => simp [intOf]; omega
    · go_wp2_with fail
      rw [hQ.out]
      go_ret
      exact ⟨rfl, HS.out.1.wl.be⟩
end Go.Proofs.Ytbagfnafkpbanaa
