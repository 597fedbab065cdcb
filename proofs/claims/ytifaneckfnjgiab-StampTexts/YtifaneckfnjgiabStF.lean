/- What read of package stamp returns: the numbers of a text that has the form, or that it hasn't. -/
import Derived.Test.YtifaneckfnjgiabStE
import Derived.WalkKit
import Derived.WalkSpells
import Derived.WalkLawsBesides
import Derived.WalkMore
import Derived.ScopeJumps
import Derived.Handy
import Derived.Below
namespace Go.Proofs.Ytifaneckfnjgiab
open Go.RowKit
/-- what lies in memory when the places ahead of k are read -/
structure RS (w wr : World) (b : Nat → Int) (k : Nat) : Prop where
  bel : Below w.heap.size w wr
  top : w.heap.size + 1 < wr.heap.size
  num : ∀ j, j < 7 → wr.cell? ⟨w.heap.size + 1, j, none⟩ = some (.int .i64 (Tx.nv b k j))
  res : ∀ j, j < 7 → wr.cell? ⟨w.heap.size, j, none⟩ = some (.int .i64 0)
  fnum : ∀ j, wr.frozen? ⟨w.heap.size + 1, j, none⟩ = false
  fres : ∀ j, wr.frozen? ⟨w.heap.size, j, none⟩ = false
theorem RS.start (w : World) (b : Nat → Int) (T : TypeId) : RS w ((w.alloc (.cells #[.int .i64 0, .int .i64 0, .int .i64 0, .int .i64 0, .int .i64 0, .int .i64 0, .int .i64 0] T)).alloc (.cells #[.int .i64 0, .int .i64 0, .int .i64 0, .int .i64 0, .int .i64 0, .int .i64 0, .int .i64 0] T)) b 0 := by
  refine ⟨?_, by simp, ?_, ?_, ?_, ?_⟩
  · exact ((Below.refl _ _).alloc (Nat.le_refl _) _).alloc (by simp) _
  · intro j hj
    have := World.cell?_alloc_new (w.alloc (.cells #[.int .i64 0, .int .i64 0, .int .i64 0, .int .i64 0, .int .i64 0, .int .i64 0, .int .i64 0] T)) #[.int .i64 0, .int .i64 0, .int .i64 0, .int .i64 0, .int .i64 0, .int .i64 0, .int .i64 0] T j
    simp only [World.size_alloc] at this
    rw [this]
    rcases j with _ | _ | _ | _ | _ | _ | _ | j
    all_goals first | rfl | omega
  · intro j hj
    rw [World.cell?_alloc_lt (h := by simp), World.cell?_alloc_new]
    rcases j with _ | _ | _ | _ | _ | _ | _ | j
    all_goals first | rfl | omega
  · intro j
    have := World.frozen?_alloc_new (w.alloc (.cells #[.int .i64 0, .int .i64 0, .int .i64 0, .int .i64 0, .int .i64 0, .int .i64 0, .int .i64 0] T)) #[.int .i64 0, .int .i64 0, .int .i64 0, .int .i64 0, .int .i64 0, .int .i64 0, .int .i64 0] T j
    simp only [World.size_alloc] at this
    exact this
  · intro j
    rw [World.frozen?_alloc_old (h := by simp), World.frozen?_alloc_new]
theorem RS.drew {w wr : World} {b : Nat → Int} {k : Nat} (h : RS w wr b k) : RS w wr.drew b k := ⟨h.bel.drew, h.top, h.num, h.res, h.fnum, h.fres⟩
theorem RS.sep {w wr : World} {b : Nat → Int} {k : Nat} (h : RS w wr b k) (hf : Tx.frm k ≠ 48) : RS w wr b (k + 1) :=
  ⟨h.bel, h.top, fun j hj => by rw [h.num j hj, Tx.nv_sep b k j hf], h.res, h.fnum, h.fres⟩
theorem RS.dig {w wr : World} {b : Nat → Int} {k : Nat} (h : RS w wr b k) (hf : Tx.frm k = 48) :
    RS w (wr.setCell ⟨w.heap.size + 1, Tx.fl k, none⟩ (.int .i64 (Tx.nv b k (Tx.fl k) * 10 + (b k - 48)))) b (k + 1) := by
  refine ⟨h.bel.setCell (by simp) _, by simpa [World.setCell] using h.top, fun j hj => ?_, fun p hp => ?_, fun j => by simp [h.fnum j], fun j => by simp [h.fres j]⟩
  · by_cases e : j = Tx.fl k
    · subst e
      rw [World.cell?_setCell_same (h := h.num _ hj), Tx.nv_dig b k hf]
    · have n1 : (⟨w.heap.size + 1, Tx.fl k, none⟩ : Addr) ≠ ⟨w.heap.size + 1, j, none⟩ := by intro x; injection x with _ x; exact e x.symm
      rw [World.cell?_setCell_other (h := n1), h.num j hj, Tx.nv_dig' b k j e]
  · rw [World.cell?_setCell_other (h := by simp), h.res p hp]
def noN : Value := .tuple #[.agg #[.int .i64 0, .int .i64 0, .int .i64 0, .int .i64 0, .int .i64 0, .int .i64 0, .int .i64 0], .int .i64 21]
def yesN (b : Nat → Int) : Value := .tuple #[.agg #[.int .i64 (Tx.nv b 26 0), .int .i64 (Tx.nv b 26 1), .int .i64 (Tx.nv b 26 2), .int .i64 (Tx.nv b 26 3), .int .i64 (Tx.nv b 26 4), .int .i64 (Tx.nv b 26 5), .int .i64 (Tx.nv b 26 6)], .int .i64 0]
def OkS (s : ByteArray) : Prop := s.size = 26 ∧ Tx.Ok (Tx.bt s) 26
def okS (s : ByteArray) : Bool := decide (s.size = 26) && (List.range 26).all (Tx.okB (Tx.bt s))
theorem okS_iff (s : ByteArray) : okS s = true ↔ OkS s := by
  unfold okS OkS Tx.Ok
  rw [Bool.and_eq_true, List.all_eq_true]
  simp only [decide_eq_true_eq, List.mem_range]
theorem okS_t {s : ByteArray} (h : OkS s) : okS s = true := (okS_iff s).2 h
theorem okS_f {s : ByteArray} (h : ¬ OkS s) : okS s = false := by rw [Bool.eq_false_iff]; exact fun x => h ((okS_iff s).1 x)
theorem okS_of {s : ByteArray} (h : okS s = true) : OkS s := (okS_iff s).1 h
def rdV (s : ByteArray) : Value := if okS s then yesN (Tx.bt s) else noN
/-- what a jump needs -/
structure NF (w wr : World) : Prop where
  bel : Below w.heap.size w wr
  res : ∀ j, j < 7 → wr.cell? ⟨w.heap.size, j, none⟩ = some (.int .i64 0)
  fres : ∀ j, wr.frozen? ⟨w.heap.size, j, none⟩ = false
theorem RS.nf {w wr : World} {b : Nat → Int} {k : Nat} (h : RS w wr b k) : NF w wr := ⟨h.bel, h.res, h.fres⟩
set_option maxHeartbeats 1000000 in
theorem read_any (s : ByteArray) (w : World) :
    Calls Try.prog 22 #[.string s] w fun e w' => e = .returned (rdV s) ∧ Below w.heap.size w w' := by
  have HST : Hid (RS w _ _ _) := RS.start w (Tx.bt s) 54
  go_enter Try.func22, Try.ntmps22
  go_wp2
  refine wp_scope_jumps 0 (fun a' w' => Hid (¬ OkS s) ∧ Hid (NF w w') ∧ ∃ (u4 u5 u6 u7 u8 u9 u10 u11 u12 u13 u14 u15 u16 u17 u18 u19 u20 u21 u22 u23 u24 u25 u26 u27 u28 u29 u30 u31 u32 u33 u34 u35 u36 u37 u38 u39 u40 u41 u42 u43 u44 u45 u46 u47 u48 : Value), a' = { tmps := #[.string s, undef, .pointer (some ⟨w.heap.size, 0, none⟩), .int .i64 0, u4, u5, u6, u7, u8, u9, u10, u11, u12, u13, u14, u15, u16, u17, u18, u19, u20, u21, u22, u23, u24, u25, u26, u27, u28, u29, u30, u31, u32, u33, u34, u35, u36, u37, u38, u39, u40, u41, u42, u43, u44, u45, u46, u47, u48], defers := [] }) (fun _ _ => 0) rfl ?_ ?_
  · by_cases h26 : s.size = 26
    · have hb : ((s.size : Int) != 26) = false := by rw [h26]; rfl
      go_wp2
      clear hb
      go_loopw [5, 10] (fun f c wr => ∃ k : Nat, c = .int .i64 (k : Int) ∧ f = .int .i64 (Tx.fl k : Int) ∧ k ≤ 26 ∧ Hid (Tx.Ok (Tx.bt s) k) ∧ Hid (RS w wr (Tx.bt s) k)) (fun _ c _ => (26 - intOf c).toNat)
      case atStart => exact ⟨0, rfl, rfl, by omega, fun _ h => absurd h (by omega), HST.out⟩
      case round =>
        clear HST
        obtain ⟨k, rfl, rfl, hk, hO, hR⟩ := hrel
        by_cases hlt : k < 26
        · have hki : (k : Int) < 26 := by omega
          have hki0 : (0 : Int) ≤ (k : Int) := by omega
          have hform := form_at k hlt
          have hbt := Tx.bt_at s k (by omega)
          obtain ⟨F, hF⟩ : ∃ F : Nat, F = Tx.fl k := ⟨_, rfl⟩
          have hF6 : (F : Int) < 7 := by have := Tx.fl_le k (by omega); omega
          have hF0 : (0 : Int) ≤ (F : Int) := by omega
          rw [← hF]
          have HF : Hid (F = Tx.fl k) := hF
          clear hF
          obtain ⟨b0, b1⟩ := Tx.bt_bd s k
          by_cases hf : Tx.frm k = 48
          · rw [hf] at hform
            have HK : Hid (Tx.frm k = 48) := hf
            clear hf
            have hv := Tx.nv_bd hO.out F
            have hp := Tx.pow_le5 _ (by rw [HF.out]; exact Tx.dc_room k hlt HK.out : Tx.dc k F ≤ 5)
            have c1 := hR.out.num F (by omega)
            have z1 := hR.out.fnum F
            obtain ⟨v, hv'⟩ : ∃ v, v = Tx.nv (Tx.bt s) k F := ⟨_, rfl⟩
            rw [← hv'] at hv c1
            have HV : Hid (v = Tx.nv (Tx.bt s) k F) := hv'
            have hv0 : 0 ≤ v := hv.1
            have hv1 : v ≤ 99999 := by omega
            clear hv hp hv'
            by_cases hd0 : Tx.bt s k < 48
            · have HE : Hid (Tx.okB (Tx.bt s) k = false) := by show _ = _; rw [Tx.ok_dig HK.out]; simp; omega
              go_wp2
              go_step3
              have HN : Hid (¬ OkS s) := fun x => by have := x.2 k hlt; rw [HE.out] at this; cases this
              refine ⟨rfl, ?_⟩
              exact ⟨HN, hR.out.nf, _, _, _, _, _, _, _, _, _, _, _, _, _, _, _, _, _, _, _, _, _, _, _, _, _, _, _, _, _, _, _, _, _, _, _, _, _, _, _, _, _, _, _, _, _, rfl⟩
            · by_cases hd1 : 57 < Tx.bt s k
              · have HE : Hid (Tx.okB (Tx.bt s) k = false) := by show _ = _; rw [Tx.ok_dig HK.out]; simp; omega
                go_wp2
                go_step3
                have HN : Hid (¬ OkS s) := fun x => by have := x.2 k hlt; rw [HE.out] at this; cases this
                refine ⟨rfl, ?_⟩
                exact ⟨HN, hR.out.nf, _, _, _, _, _, _, _, _, _, _, _, _, _, _, _, _, _, _, _, _, _, _, _, _, _, _, _, _, _, _, _, _, _, _, _, _, _, _, _, _, _, _, _, _, _, rfl⟩
              · have HE : Hid (Tx.okB (Tx.bt s) k = true) := by show _ = _; rw [Tx.ok_dig HK.out]; simp; omega
                go_wp2
                go_region
                go_wp2
                have hd := (hR.out.dig HK.out).drew
                rw [← HF.out, ← HV.out] at hd
                exact ⟨⟨k + 1, by go_num, by rw [HF.out, Tx.fl_dig k hlt HK.out], by omega, hO.out.step HE.out, hd⟩, by simp [intOf]; omega⟩
          · have HK : Hid (Tx.frm k ≠ 48) := hf
            have hb : ((Tx.frm k : Int) != 48) = true := by rw [bne_iff_ne]; omega
            clear hf
            by_cases he : Tx.bt s k = Tx.frm k
            · have HE : Hid (Tx.okB (Tx.bt s) k = true) := by show _ = _; rw [Tx.ok_sep HK.out]; simpa using he
              go_wp2
              go_region
              go_wp2
              exact ⟨⟨k + 1, by go_num, by rw [HF.out, Tx.fl_sep k hlt HK.out]; go_num, by omega, hO.out.step HE.out, (hR.out.sep HK.out).drew⟩, by simp [intOf]; omega⟩
            · have HE : Hid (Tx.okB (Tx.bt s) k = false) := by show _ = _; rw [Tx.ok_sep HK.out]; simpa using he
              go_wp2
              go_region
              go_wp2
              go_step3
              have HN : Hid (¬ OkS s) := fun x => by have := x.2 k hlt; rw [HE.out] at this; cases this
              refine ⟨rfl, ?_⟩
              exact ⟨HN, hR.out.drew.nf, _, _, _, _, _, _, _, _, _, _, _, _, _, _, _, _, _, _, _, _, _, _, _, _, _, _, _, _, _, _, _, _, _, _, _, _, _, _, _, _, _, _, _, _, _, rfl⟩
        · have e : k = 26 := by omega
          subst e
          have n0 := hR.out.num 0 (by omega)
          have n1 := hR.out.num 1 (by omega)
          have n2 := hR.out.num 2 (by omega)
          have n3 := hR.out.num 3 (by omega)
          have n4 := hR.out.num 4 (by omega)
          have n5 := hR.out.num 5 (by omega)
          have n6 := hR.out.num 6 (by omega)
          have q0 := hR.out.res 0 (by omega)
          have q1 := hR.out.res 1 (by omega)
          have q2 := hR.out.res 2 (by omega)
          have q3 := hR.out.res 3 (by omega)
          have q4 := hR.out.res 4 (by omega)
          have q5 := hR.out.res 5 (by omega)
          have q6 := hR.out.res 6 (by omega)
          have fz := hR.out.fres
          have HV : Hid (rdV s = yesN (Tx.bt s)) := by show _ = _; unfold rdV; rw [okS_t ⟨h26, hO.out⟩]; rfl
          go_simp
          repeat (first | go_values | go_skip | go_guarded | go_step | go_upon)
          simp only [Exit.jump]
          refine bodyPost_ret (v := yesN (Tx.bt s)) (by simp [results, Try.results22, go_sem, yesN, q0, q1, q2, q3, q4, q5, q6]) rfl ⟨by rw [HV.out], ?_⟩
          exact (by repeat' (first | with_reducible exact Below.refl _ _ | with_reducible exact hR.out.bel | with_reducible refine Below.setCell ?_ (by first | (simp; done) | (simp; omega) | omega) _ | with_reducible refine below_drewN ?_ _ | with_reducible refine Below.drew ?_ | with_reducible refine Below.alloc ?_ (by first | (simp; done) | (simp; omega) | omega) _))
    · have hb : ((s.size : Int) != 26) = true := by rw [bne_iff_ne]; omega
      go_wp2
      go_step3
      exact ⟨rfl, fun x => h26 x.1, HST.out.nf, _, _, _, _, _, _, _, _, _, _, _, _, _, _, _, _, _, _, _, _, _, _, _, _, _, _, _, _, _, _, _, _, _, _, _, _, _, _, _, _, _, _, _, _, _, rfl⟩
  · rintro a' w' ⟨H1, H2, u4, u5, u6, u7, u8, u9, u10, u11, u12, u13, u14, u15, u16, u17, u18, u19, u20, u21, u22, u23, u24, u25, u26, u27, u28, u29, u30, u31, u32, u33, u34, u35, u36, u37, u38, u39, u40, u41, u42, u43, u44, u45, u46, u47, u48, rfl⟩
    have q0 := H2.out.res 0 (by omega)
    have q1 := H2.out.res 1 (by omega)
    have q2 := H2.out.res 2 (by omega)
    have q3 := H2.out.res 3 (by omega)
    have q4 := H2.out.res 4 (by omega)
    have q5 := H2.out.res 5 (by omega)
    have q6 := H2.out.res 6 (by omega)
    have fz := H2.out.fres
    have HV : Hid (rdV s = noN) := by show _ = _; unfold rdV; rw [okS_f H1.out]; rfl
    go_simp
    repeat (first | go_values | go_skip | go_guarded | go_step | go_upon)
    simp only [Exit.jump]
    refine bodyPost_ret (v := noN) (by simp [results, Try.results22, go_sem, noN, q0, q1, q2, q3, q4, q5, q6]) rfl ⟨by rw [HV.out], ?_⟩
    exact (by repeat' (first | with_reducible exact Below.refl _ _ | with_reducible exact H2.out.bel | with_reducible refine Below.setCell ?_ (by first | (simp; done) | (simp; omega) | omega) _ | with_reducible refine below_drewN ?_ _ | with_reducible refine Below.drew ?_ | with_reducible refine Below.alloc ?_ (by first | (simp; done) | (simp; omega) | omega) _))
end Go.Proofs.Ytifaneckfnjgiab
