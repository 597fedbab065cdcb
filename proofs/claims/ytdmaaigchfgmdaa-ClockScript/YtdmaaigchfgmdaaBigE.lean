/- What divide of the reference's whole numbers returns: the digits of the quotient, divided down, and of what is left. -/
import Derived.Test.YtdmaaigchfgmdaaBigD
import Derived.WalkKit
import Derived.WalkSpells
import Derived.WalkLawsBesides
import Derived.Laws.AppendOwnNone
namespace Bg
theorem can_le {a b : List Nat} (ha : can a) (hb : can b) (h : val a ≤ val b) : a.length ≤ b.length := by
  refine Nat.le_of_not_lt fun x => ?_
  have := cmp_len hb.1 ha x
  omega
/-- one digit more, from the front -/
theorem long_div (H a V : Nat) (hV : 0 < V) : (a + 65536 * H) / V = (a + 65536 * (H % V)) / V + 65536 * (H / V) ∧ (a + 65536 * H) % V = (a + 65536 * (H % V)) % V := by
  have h := Nat.div_add_mod H V
  have e : a + 65536 * H = a + 65536 * (H % V) + V * (65536 * (H / V)) := by
    rw [← Nat.mul_assoc, Nat.mul_comm V 65536, Nat.mul_assoc]
    omega
  rw [e, Nat.add_mul_div_left _ _ hV, Nat.add_mul_mod_self_left]
  exact ⟨rfl, rfl⟩
theorem digit_lt (a r V : Nat) (ha : a < 65536) (hr : r < V) : (a + 65536 * r) / V < 65536 := by
  rw [Nat.div_lt_iff_lt_mul (by omega)]
  have := Nat.mul_le_mul_left 65536 (show r + 1 ≤ V from hr)
  omega
theorem fits_iff (V m R : Nat) (hV : 0 < V) : V * m ≤ R ↔ m ≤ R / V := by rw [Nat.le_div_iff_mul_le hV, Nat.mul_comm]
theorem left_of (V R : Nat) : R - V * (R / V) = R % V ∧ V * (R / V) ≤ R := by
  have := Nat.div_add_mod R V
  omega
theorem val_one (d : Nat) : val [d] = d := by simp [val]
theorem dok_one (d : Nat) (h : d < 65536) : dok [d] := fun x hx => by simp at hx; omega
/-- a digit set from the front -/
theorem drop_set (Q : List Nat) (k d : Nat) (hk : k < Q.length) : val ((Q.set k d).drop k) = d + 65536 * val (Q.drop (k + 1)) := by
  rw [drop_at _ k (by rw [List.length_set]; exact hk), val, getD_at _ _ (by rw [List.length_set]; exact hk), List.getElem_set_self, List.drop_set]
  simp
end Bg
namespace Go.Proofs.Ytdmaaigchfgmdaa
open Go.RowKit
theorem grown_of_below {w w' : World} (h : Below w.heap.size w w') : w.grownBy w' none := ⟨h.os, h.tape, h.output, h.size, fun k hk _ => h.block k hk⟩
theorem own_below {w w' : World} {base e size n : Nat} {v : Value} {xs : List Value} (h : w.ownsRow base e size v n xs) (hb : Below w.heap.size w w') : w'.ownsRow base e size v n xs :=
  h.kept (grown_of_below hb) (by cases v.ownBlock <;> simp)
theorem Rd.store {w : World} {ao : Option Addr} {ds : List Nat} (h : Rd w ao ds) {g p : Nat} (hn : ∀ ad, ao = some ad → ad.block ≠ g) (u : Value) : Rd (w.setCell ⟨g, p, none⟩ u) ao ds := fun k hk => by
  obtain ⟨b, h1, h2, h3⟩ := h k hk
  refine ⟨b, h1, by simpa using h2, ?_⟩
  have hne : b ≠ g := hn _ h1
  rw [← h3]
  exact World.cell?_of_block (Below.heap_setCell w ⟨g, p, none⟩ u b hne)
theorem rd_lit (w : World) (d : Nat) : Rd (w.alloc (.cells #[.int .i64 (d : Int)] 3)) (some ⟨w.heap.size, 0, none⟩) [d] := fun k hk => by
  simp at hk
  subst hk
  exact ⟨w.heap.size, rfl, by simp, by simp⟩
/-- append to a row that the call has made, of another slice, nil or not -/
theorem append_any {P : Program} {w : World} {ops : Array Oper} {rest : List Oper} {o : Oper} {a : Act} {Q : Exit → Act → World → Prop} (hgd : o.guard = none) (s x : Operand) (t : TypeId)
    (ho : o.op = .call { callee := .builtin .append, args := #[s, x], argTypes := #[t, t] })
    (base : Nat) (e : TypeId) (i : TypeInfo) (ht : P.underlying t = some (.slice e)) (hi : P.info? e = some i) (hz : i.zero = some (.int .i64 0))
    (hsize : i.size = 1) (hby : i.bytes = 8)
    (v : Value) (n : Nat) (xs : List Value) (hs : a.eval s = v) (hown : w.ownsRow base e 1 v n xs)
    (ro : Option Addr) (R : List Nat) (c : Nat) (hx : a.eval x = .slice ro R.length c) (hR : Rd w ro R) (hN : ro = none → c = 0) (hc : R.length ≤ c)
    (h63 : n + R.length ≤ 1000000) (hbase : base ≤ w.heap.size)
    (h : ∀ v' w', w'.ownsRow base e 1 v' (n + R.length) (xs ++ vals R) → w.grownBy w' v.ownBlock → wpList P ops Q rest (a.put o.dst v') w') : wpList P ops Q (o :: rest) a w := by
  rcases ro with _ | ad
  · have hc0 := hN rfl
    have hl : R = [] := List.length_eq_zero_iff.1 (by omega)
    subst hl hc0
    refine wpList_append_own_none hgd s x t ho base e i 1 ht hi v n xs hs hown hx ?_
    refine h v w ?_ ⟨rfl, rfl, rfl, Nat.le_refl _, fun _ _ _ => rfl⟩
    simpa [vals] using hown
  · refine wpList_append_own w hgd s x t ho base e i (.int .i64 0) 1 8 ht hi hz hsize hby rfl (by decide) v n xs hs hown ad R.length c (vals R) hx (by rw [vals_len]; omega) ?_ ?_ (by unfold maxLen; omega) (by omega) hbase fun v' w' h1 h2 _ => h v' w' h1 h2
    · intro j u hj
      unfold vals at hj
      rw [List.getElem?_map] at hj
      by_cases hjl : j < R.length
      · rw [List.getElem?_eq_getElem hjl] at hj
        obtain ⟨b, h1, h2, h3⟩ := hR j hjl
        simp at h1
        subst h1
        simp at hj
        subst hj
        rw [Bg.getD_at _ _ hjl] at h3
        by_cases hj0 : j = 0
        · subst hj0; simpa [Addr.add] using h3
        · simpa [Addr.add, hj0] using h3
      · rw [List.getElem?_eq_none (by omega)] at hj
        simp at hj
    · intro u hu
      unfold vals at hu
      simp at hu
      obtain ⟨d, _, rfl⟩ := hu
      rfl
theorem own_one (w : World) (x : Int) : (w.alloc (.cells #[.int .i64 x] 3)).ownsRow w.heap.size 3 1 (.slice (some ⟨w.heap.size, 0, none⟩) 1 1) 1 [.int .i64 x] :=
  World.ownsRow_lit w #[.int .i64 x] 1 (Nat.le_refl _) (by decide) rfl
theorem vals_one (x : Int) (d : Nat) (R : List Nat) (h : x = (d : Int)) : [Value.int .i64 x] ++ vals R = vals (d :: R) := by
  rw [h]; simp [vals]
theorem trim_rd (ao : Option Addr) (ds : List Nat) (cap : Nat) (w : World) (hn1 : (ds.length : Int) ≤ 1000000) (hc : (ds.length : Int) ≤ cap) (hr : Rd w ao ds) (hd : Bg.dok ds) :
    Calls Try.prog 71 #[.slice ao ds.length cap] w fun e w' => ∃ R : List Nat, e = .returned (.slice ao R.length cap) ∧ R.length ≤ ds.length ∧ Bg.can R ∧ Bg.val R = Bg.val ds ∧ Rd w ao R ∧ w = w' := by
  refine (trim_any ao ds cap w hn1 hc hr hd).mono ?_
  rintro e w' ⟨m, rfl, h1, h2, h3, rfl⟩
  have hl : (ds.take m).length = m := by rw [List.length_take]; omega
  exact ⟨ds.take m, ret_slice hl.symm, by omega, h2, h3, hr.take m, rfl⟩
/-- a product with one digit -/
theorem times_one (bo : Option Addr) (B : List Nat) (cb : Nat) (d : Nat) (g : Nat) (w : World) (hB : (B.length : Int) ≤ 100000) (rb : Rd w bo B) (db : Bg.dok B) (hd : d < 65536) (rd : Rd w (some ⟨g, 0, none⟩) [d]) :
    Calls Try.prog 70 #[.slice bo B.length cb, .slice (some ⟨g, 0, none⟩) 1 1] w fun e w' => ∃ (o : Option Addr) (ds : List Nat) (c : Nat), e = .returned (.slice o ds.length c) ∧ ds.length ≤ c ∧ Rd w' o ds ∧ Bg.can ds ∧ Bg.val ds = Bg.val B * d ∧ New w.heap.size o c ∧ Below w.heap.size w w' := by
  have := times_any bo (some ⟨g, 0, none⟩) B [d] cb 1 w hB (by simp) rb rd db (Bg.dok_one d hd)
  rw [Bg.val_one] at this
  exact this
/-- what holds ahead of each digit of the quotient -/
structure Dv (w wr : World) (A : List Nat) (V : Nat) (j : Int) (ro : Option Addr) (rc : Nat) (R Q : List Nat) : Prop where
  own : wr.ownsRow w.heap.size 3 1 (.slice (some ⟨w.heap.size, 0, none⟩) A.length A.length) A.length (vals Q)
  len : Q.length = A.length
  dq : Bg.dok Q
  rd : Rd wr ro R
  can : Bg.can R
  cap : R.length ≤ rc
  new : New (w.heap.size + 1) ro rc
  rest : Bg.val R = Bg.val (A.drop (j + 1).toNat) % V
  quo : Bg.val (Q.drop (j + 1).toNat) = Bg.val (A.drop (j + 1).toNat) / V
  below : Below w.heap.size w wr
  size : w.heap.size + 1 ≤ wr.heap.size
set_option maxRecDepth 20000 in
set_option maxHeartbeats 4000000 in
theorem divide_any (ao bo : Option Addr) (A B : List Nat) (ca cb : Nat) (w : World) (hA : (A.length : Int) ≤ 50000) (hB : (B.length : Int) ≤ 50000) (ra : Rd w ao A) (rb : Rd w bo B) (da : Bg.dok A) (db : Bg.dok B) (hV : 0 < Bg.val B) :
    Calls Try.prog 69 #[.slice ao A.length ca, .slice bo B.length cb] w fun e w' => ∃ (qo ro : Option Addr) (Q R : List Nat) (qc rc : Nat), e = .returned (.tuple #[.slice qo Q.length qc, .slice ro R.length rc]) ∧ Q.length ≤ qc ∧ R.length ≤ rc ∧ Rd w' qo Q ∧ Rd w' ro R ∧ Bg.can Q ∧ Bg.can R ∧ Bg.val Q = Bg.val A / Bg.val B ∧ Bg.val R = Bg.val A % Bg.val B ∧ New w.heap.size qo qc ∧ Below w.heap.size w w' := by
  have ra' : Hid (Rd w ao A) := ra
  have rb' : Hid (Rd w bo B) := rb
  have da' : Hid (Bg.dok A) := da
  have db' : Hid (Bg.dok B) := db
  have hV' : Hid (0 < Bg.val B) := hV
  obtain ⟨i0, hi, hz0, hz1, hz2⟩ := info_parts info_int
  obtain ⟨V, hVV⟩ : ∃ V, V = Bg.val B := ⟨_, rfl⟩
  have hVe : Hid (V = Bg.val B) := hVV
  clear ra rb da db hV hVV
  go_enter Try.func69, Try.ntmps69
  go_wp2_with (at_make; refine wpList_make_full _ rfl _ _ 50 rfl w.heap.size 3 i0 (.int .i64 0) 1 Try.underlying50 hi hz0 hz1 .i64 .i64 _ _ A.length rfl rfl (by omega) (by omega) (by rw [hz2]; omega) (by unfold maxLen; omega) (Nat.le_refl _) ?_)
  intro w1 hown hgrow
  have H0 : Hid (w1.ownsRow w.heap.size 3 1 (.slice (some ⟨w.heap.size, 0, none⟩) A.length A.length) A.length (vals (List.replicate A.length 0)) ∧ Below w.heap.size w w1) := ⟨by rw [← vals_zeros]; exact hown, (Below.refl _ _).grown hgrow (Nat.le_refl _) (by simp)⟩
  have hw1 : Hid (w.heap.size + 1 ≤ w1.heap.size) := (hown.lt w.heap.size rfl).2
  clear hown hgrow
  go_wp2
  go_loopw [7, 8] (fun r i wr => ∃ (j : Int) (ro : Option Addr) (rc : Nat) (R Q : List Nat), r = .slice ro R.length rc ∧ i = .int .i64 j ∧ -1 ≤ j ∧ j < A.length ∧ (R.length : Int) ≤ B.length ∧ Hid (Dv w wr A V j ro rc R Q)) (fun _ i _ => (intOf i + 1).toNat)
  case atStart =>
    refine ⟨(A.length : Int) - 1, some ⟨w1.heap.size, 0, none⟩, 0, [], List.replicate A.length 0, rfl, rfl, by omega, by omega, by simp, H0.out.1.alloc _, by simp, Bg.dok_zeros _, fun k hk => absurd hk (by simp), Bg.can_nil, by simp, ⟨fun h => by simp at h, fun ad h => by simp at h; subst h; exact hw1.out⟩, ?_, ?_, H0.out.2.alloc (by have := hw1.out; omega) _, by have := hw1.out; simp; omega⟩
    · rw [show ((A.length : Int) - 1 + 1).toNat = A.length from by omega, Bg.val_cmp_zero]; simp [Bg.val]
    · rw [show ((A.length : Int) - 1 + 1).toNat = A.length from by omega, Bg.val_cmp_zero]; simp [Bg.val]
  case round =>
    obtain ⟨j, ro, rc, R, Q, rfl, rfl, hj0, hj1, hRl, hH⟩ := hrel
    clear H0 hw1
    by_cases hj : j < 0
    · have hRl2 : Hid (R.length ≤ rc) := hH.out.cap
      obtain ⟨o, cc, ho, o1, o2, o3⟩ := own_rd (by rw [hH.out.len]; exact hH.out.own : wr.ownsRow w.heap.size 3 1 (.slice (some ⟨w.heap.size, 0, none⟩) A.length A.length) Q.length (vals Q))
      have hho : Hid (Value.slice (some ⟨w.heap.size, 0, none⟩) A.length A.length = .slice o Q.length cc) := ho
      have RD : Hid (Rd wr o Q ∧ Q.length ≤ cc ∧ Q.length = A.length) := ⟨o2, o1, hH.out.len⟩
      have NQ : Hid (New w.heap.size o cc) := o3
      clear ho o1 o2 o3
      go_wp2_with fail
      rw [hho.out]
      refine (trim_rd o Q cc _ (by have := RD.out.2.2; omega) (by have := RD.out.2.1; omega) RD.out.1 hH.out.dq).mono ?_
      rintro e w3 ⟨Q2, rfl, r1, r2, r3, r4, rfl⟩
      have F3 : Hid (Q2.length ≤ Q.length ∧ Bg.can Q2 ∧ Bg.val Q2 = Bg.val Q ∧ Rd wr o Q2) := ⟨r1, r2, r3, r4⟩
      clear r1 r2 r3 r4
      go_wp2
      go_ret2
      obtain ⟨r1, r2, r3, r4⟩ := F3.out
      have hq := hH.out.quo
      have hr := hH.out.rest
      rw [show (j + 1).toNat = 0 from by omega, List.drop_zero, hVe.out] at hr
      rw [show (j + 1).toNat = 0 from by omega, List.drop_zero, List.drop_zero, hVe.out] at hq
      exact ⟨o, ro, Q2, R, cc, rc, rfl, by have := RD.out.2.1; omega, hRl2.out, r4, hH.out.rd, r2, hH.out.can, by rw [r3, hq], hr, NQ.out, hH.out.below⟩
    · obtain ⟨b, x, g1, g2, g3, hx, x0, x1⟩ := (ra'.out.below hH.out.below (Nat.le_refl _)).at da'.out j.toNat (by omega)
      have hix : ∀ w, Sem.run Try.prog (Instr.indexAt 50 (.slice ao A.length ca) (.int .i64 j)) w = .ok (.pointer (some ⟨b, j.toNat, none⟩)) w := idx_run A.length ca j.toNat j g1.out (by omega) (by omega)
      have RDA : Hid (Rd (wr.alloc (.cells #[.int .i64 x] 3)) ro R) := hH.out.rd.below ((Below.refl wr.heap.size wr).alloc (Nat.le_refl _) _) (Nat.le_refl _)
      have NW : Hid (ro = none → rc = 0) := hH.out.new.1
      have hcap : (R.length : Int) ≤ rc := by have := hH.out.cap; omega
      go_wp2_with (at_builtin; refine append_any rfl _ _ 50 rfl wr.heap.size 3 i0 Try.underlying50 hi hz0 hz1 hz2 _ _ _ rfl (own_one wr x) ro R rc rfl RDA.out NW.out (by omega) (by omega) (by simp) ?_)
      intro v2 w2 hown2 hgrow2
      obtain ⟨L, hL⟩ : ∃ L, L = A.getD j.toNat 0 :: R := ⟨_, rfl⟩
      have hown3 : w2.ownsRow wr.heap.size 3 1 v2 L.length (vals L) := by
        rw [hL, ← vals_one x _ R hx.out, List.length_cons, Nat.add_comm]; exact hown2
      have hLl : (L.length : Int) ≤ (B.length : Int) + 1 := by rw [hL, List.length_cons]; omega
      have BW2 : Below wr.heap.size wr w2 := ((Below.refl _ _).alloc (Nat.le_refl _) _).grown hgrow2 (by simp) (by intro k hk; simp [Value.ownBlock] at hk; omega)
      obtain ⟨o2, c2, rfl, q1, q2, q3⟩ := own_rd hown3
      have hLd : Bg.dok L := by rw [hL]; intro d hd; simp at hd; rcases hd with hd | hd; · rw [hd]; exact Bg.dok_getD da'.out _
                                · exact hH.out.can.1 d hd
      have F2 : Hid (L = A.getD j.toNat 0 :: R ∧ Below wr.heap.size wr w2 ∧ New wr.heap.size o2 c2 ∧ Rd w2 o2 L ∧ L.length ≤ c2 ∧ Bg.dok L) := ⟨hL, BW2, q3, q2, q1, hLd⟩
      have OQ : Hid (w2.ownsRow w.heap.size 3 1 (.slice (some ⟨w.heap.size, 0, none⟩) A.length A.length) A.length (vals Q) ∧ Below w.heap.size w w2 ∧ New (w.heap.size + 1) o2 c2 ∧ w.heap.size + 1 ≤ w2.heap.size) :=
        ⟨own_below hH.out.own BW2, hH.out.below.trans (BW2.mono (by have := hH.out.size; omega)), ⟨q3.1, fun ad h => Nat.le_trans hH.out.size (q3.2 ad h)⟩, Nat.le_trans hH.out.size BW2.size⟩
      have HQ : Hid (Q.length = A.length ∧ Bg.dok Q ∧ Bg.val R = Bg.val (A.drop (j + 1).toNat) % V ∧ Bg.val (Q.drop (j + 1).toNat) = Bg.val (A.drop (j + 1).toNat) / V) := ⟨hH.out.len, hH.out.dq, hH.out.rest, hH.out.quo⟩
      clear hown2 hown3 hgrow2 hL BW2 q1 q2 q3 hLd RDA
      go_wp2_with fail
      refine (trim_rd o2 L c2 w2 (by omega) (by have := F2.out.2.2.2.2.1; omega) F2.out.2.2.2.1 F2.out.2.2.2.2.2).mono ?_
      rintro e w3 ⟨R2, rfl, r1, r2, r3, r4, rfl⟩
      have hR2l : (R2.length : Int) ≤ (B.length : Int) + 1 := by omega
      obtain ⟨D, hD⟩ : ∃ D : Int, D = ((Bg.val R2 / V : Nat) : Int) := ⟨_, rfl⟩
      have F3 : Hid (R2.length ≤ L.length ∧ Bg.can R2 ∧ Bg.val R2 = Bg.val L ∧ Rd w2 o2 R2 ∧ D = ((Bg.val R2 / V : Nat) : Int)) := ⟨r1, r2, r3, r4, hD⟩
      have hDb : 0 ≤ D ∧ D ≤ 65535 := by
        have hVp := hV'.out
        have hVe2 := hVe.out
        have := Bg.digit_lt (A.getD j.toNat 0) (Bg.val R) V (Bg.dok_getD da'.out _) (by rw [hH.out.rest]; exact Nat.mod_lt _ (by omega))
        rw [hD, r3, F2.out.1]
        rw [Bg.val]
        generalize (A.getD j.toNat 0 + 65536 * Bg.val R) / V = q at *
        omega
      obtain ⟨D0, D1⟩ := hDb
      clear r1 r2 r3 r4 hD
      go_wp2
      go_loopw [10, 11] (fun lo hi wv => ∃ (l h : Int), lo = .int .i64 l ∧ hi = .int .i64 h ∧ 0 ≤ l ∧ l ≤ h ∧ h ≤ 65535 ∧ l ≤ D ∧ D ≤ h ∧ Hid (Below w2.heap.size w2 wv)) (fun lo hi _ => (intOf hi - intOf lo).toNat)
      case atStart => exact ⟨0, 65535, rfl, rfl, by omega, by omega, by omega, D0, D1, Below.refl _ _⟩
      case round =>
        obtain ⟨l, h, rfl, rfl, l0, lh, h1, lD, Dh, hB2⟩ := hrel
        have BWV : Below w.heap.size w wr := OQ.out.2.1.trans (hB2.out.mono (by have := OQ.out.2.2.2; omega))
        have BV : Hid (Below w.heap.size w wr) := BWV
        clear BWV
        by_cases hlh : l < h
        · obtain ⟨m, hm⟩ : ∃ m : Int, m = (l + h + 1) / 2 := ⟨_, rfl⟩
          have em : (l + h + 1) / 2 = m := hm.symm
          have hm1 : l < m := by omega
          have hm2 : m ≤ h := by omega
          obtain ⟨d, hd⟩ : ∃ d : Nat, m = (d : Int) := Int.eq_ofNat_of_zero_le (by omega)
          have hd' : Hid (m = (d : Int)) := hd
          clear hm hd
          go_wp2_with fail
          have RL : Rd (wr.alloc (.cells #[.int .i64 m] 3)) (some ⟨wr.heap.size, 0, none⟩) [d] := by rw [hd'.out]; exact rd_lit wr d
          have RB : Rd (wr.alloc (.cells #[.int .i64 m] 3)) bo B := rb'.out.below (BV.out.alloc BV.out.size _) (Nat.le_refl _)
          refine (times_one bo B cb d wr.heap.size _ (by omega) RB db'.out (by have := hd'.out; omega) RL).mono ?_
          rintro e w4 ⟨o3, T, c3, rfl, t1, t2, t3, t4, t5, t6⟩
          have hB4 : Below w2.heap.size w2 w4 := (hB2.out.alloc hB2.out.size _).trans (t6.mono (by have := hB2.out.size; simp; omega))
          have hTl : T.length ≤ B.length + 1 := Bg.can_len t3 _ (by
            rw [t4, Nat.pow_succ]
            exact Nat.mul_lt_mul'' (Bg.val_lt B db'.out) (by have := hd'.out; omega))
          have hTl' : (T.length : Int) ≤ (B.length : Int) + 1 := by omega
          have F5 : Hid (Rd w4 o3 T ∧ Bg.can T ∧ Bg.val T = Bg.val B * d ∧ Below w2.heap.size w2 w4) := ⟨t2, t3, t4, hB4⟩
          clear RL RB t1 t2 t3 t4 t5 t6 hB4 hTl
          go_wp2_with fail
          refine (compare_any o3 o2 T R2 c3 c2 w4 (by omega) (by omega) F5.out.1 (F3.out.2.2.2.1.below F5.out.2.2.2 (Nat.le_refl _)) F5.out.2.1 F3.out.2.1).mono ?_
          rintro e w5 ⟨r, rfl, hr, n, rfl⟩
          have hcmp : (r ≤ 0 → m ≤ D) ∧ (¬ r ≤ 0 → D < m) := by
            have hVp := hV'.out
            have e1 := F5.out.2.2.1
            have e2 := F3.out.2.2.2.2
            have e3 := Bg.fits_iff V d (Bg.val R2) (by rw [hVe.out]; exact hVp)
            rw [← hVe.out] at e1
            have e4 := hd'.out
            generalize Bg.val R2 / V = DD at *
            generalize Bg.val R2 = X at *
            generalize Bg.val T = Y at *
            generalize V * d = Z at *
            refine ⟨fun h0 => ?_, fun h0 => ?_⟩
            · have : Z ≤ X := by omega
              have := e3.1 this
              omega
            · have : ¬ Z ≤ X := by omega
              have : ¬ d ≤ DD := fun y => this (e3.2 y)
              omega
          have CM : Hid ((r ≤ 0 → m ≤ D) ∧ (¬ r ≤ 0 → D < m)) := hcmp
          clear hr hcmp
          by_cases hr0 : r ≤ 0
          · have hmD := CM.out.1 hr0
            go_wp2
            go_roundw
            case rel => exact ⟨m, h, rfl, rfl, by omega, by omega, by omega, by omega, by omega, below_drewN F5.out.2.2.2 n⟩
            case measure => simp [intOf]; omega
          · have hmD := CM.out.2 hr0
            go_wp2
            go_roundw
            case rel => exact ⟨l, m - 1, rfl, rfl, by omega, by omega, by omega, by omega, by omega, below_drewN F5.out.2.2.2 n⟩
            case measure => simp [intOf]; omega
        · have hlD : l = D := by omega
          have hlD' : Hid (l = D) := hlD
          clear hlD
          obtain ⟨d, hd⟩ : ∃ d : Nat, l = (d : Int) := Int.eq_ofNat_of_zero_le l0
          have hd' : Hid (l = (d : Int)) := hd
          clear hd
          have OW : wr.ownsRow w.heap.size 3 1 (.slice (some ⟨w.heap.size, 0, none⟩) A.length A.length) A.length (vals Q) := own_below OQ.out.1 hB2.out
          obtain ⟨z, z1, z2, hzz, z3, z4⟩ := own_at OW HQ.out.1 HQ.out.2.1 j.toNat (by omega)
          have hiz : ∀ v, Sem.run Try.prog (Instr.indexAt 50 (.slice (some ⟨w.heap.size, 0, none⟩) A.length A.length) (.int .i64 j)) v = .ok (.pointer (some ⟨w.heap.size, j.toNat, none⟩)) v := idx_run A.length A.length j.toNat j rfl (by omega) (by omega)
          have OS := own_store OW BV.out j.toNat d
          rw [← hd'.out] at OS
          have OS' : Hid _ := OS
          have RS : Rd (wr.setCell ⟨w.heap.size, j.toNat, none⟩ (.int .i64 l)) o2 R2 := (F3.out.2.2.2.1.below hB2.out (Nat.le_refl _)).store (fun ad h => by have := OQ.out.2.2.1.2 ad h; omega) _
          have RS' : Hid _ := RS
          clear OW OS RS
          go_wp2_with fail
          have hsz : (wr.setCell ⟨w.heap.size, j.toNat, none⟩ (.int .i64 l)).heap.size = wr.heap.size := by simp
          have RL := rd_lit (wr.setCell ⟨w.heap.size, j.toNat, none⟩ (.int .i64 l)) d
          rw [← hd'.out, hsz] at RL
          have hwrs : w.heap.size ≤ wr.heap.size := BV.out.size
          have RB := rb'.out.below (OS'.out.2.alloc (by rw [hsz]; exact hwrs) (.cells #[.int .i64 l] 3)) (Nat.le_refl _)
          refine (times_one bo B cb d wr.heap.size _ (by omega) RB db'.out (by have := hd'.out; omega) RL).mono ?_
          rintro e w4 ⟨o3, T, c3, rfl, t1, t2, t3, t4, t5, t6⟩
          have BA : Below (wr.setCell ⟨w.heap.size, j.toNat, none⟩ (.int .i64 l)).heap.size (wr.setCell ⟨w.heap.size, j.toNat, none⟩ (.int .i64 l)) w4 :=
            ((Below.refl _ _).alloc (Nat.le_refl _) _).trans (t6.mono (by simp))
          have O4 : w4.ownsRow w.heap.size 3 1 (.slice (some ⟨w.heap.size, 0, none⟩) A.length A.length) A.length (vals (Q.set j.toNat d)) := own_below OS'.out.1 BA
          have B4 : Below w.heap.size w w4 := OS'.out.2.trans (BA.mono (by rw [hsz]; exact hwrs))
          have R4 : Rd w4 o2 R2 := Rd.below RS'.out BA (Nat.le_refl _)
          have S4 : w.heap.size + 1 ≤ w4.heap.size := by
            have h1 := BA.size
            rw [hsz] at h1
            have h2 := hB2.out.size
            have h3 := OQ.out.2.2.2
            omega
          have hdD : d = Bg.val R2 / V := by
            have h1 := hd'.out
            have h2 := hlD'.out
            have h3 := F3.out.2.2.2.2
            omega
          have hle := Bg.left_of V (Bg.val R2)
          rw [← hdD] at hle
          have hTV : Bg.val T = V * d := by rw [t4, hVe.out]
          have hTR : T.length ≤ R2.length := Bg.can_le t3 F3.out.2.1 (by rw [hTV]; exact hle.2)
          have hTR' : (T.length : Int) ≤ R2.length := by omega
          have F6 : Hid (w4.ownsRow w.heap.size 3 1 (.slice (some ⟨w.heap.size, 0, none⟩) A.length A.length) A.length (vals (Q.set j.toNat d)) ∧ Below w.heap.size w w4 ∧ Rd w4 o2 R2 ∧ w.heap.size + 1 ≤ w4.heap.size ∧ d = Bg.val R2 / V ∧ Bg.val T = V * d ∧ Bg.val R2 - V * d = Bg.val R2 % V ∧ V * d ≤ Bg.val R2 ∧ Rd w4 o3 T ∧ Bg.can T) := ⟨O4, B4, R4, S4, hdD, hTV, hle.1, hle.2, t2, t3⟩
          clear RL RB t1 t2 t3 t4 t5 t6 BA O4 B4 R4 S4 hdD hle hTV hTR hsz hwrs
          go_wp2_with fail
          refine (minus_any o2 o3 R2 T c2 c3 w4 (by omega) (by omega) F6.out.2.2.1 F6.out.2.2.2.2.2.2.2.2.1 F3.out.2.1.1 F6.out.2.2.2.2.2.2.2.2.2.1 (by rw [F6.out.2.2.2.2.2.1]; exact F6.out.2.2.2.2.2.2.2.1)).mono ?_
          rintro e w5 ⟨o5, R3, c5, rfl, p1, p2, p3, p4, p5, p6⟩
          have hVp : 0 < V := by rw [hVe.out]; exact hV'.out
          have hR3 : Bg.val R3 = Bg.val R2 % V := by rw [p4, F6.out.2.2.2.2.2.1]; exact F6.out.2.2.2.2.2.2.1
          have hR3l : R3.length ≤ B.length := Bg.can_len p3 _ (by
            have h1 := Nat.mod_lt (Bg.val R2) hVp
            have h2 := Bg.val_lt B db'.out
            rw [← hVe.out] at h2
            omega)
          have hR3l' : (R3.length : Int) ≤ B.length := by omega
          have hA2 : Bg.val (A.drop j.toNat) = A.getD j.toNat 0 + 65536 * Bg.val (A.drop (j.toNat + 1)) := by rw [Bg.drop_at A j.toNat (by omega), Bg.val]
          have hj2 : (j + 1).toNat = j.toNat + 1 := by omega
          have hq := HQ.out
          rw [hj2] at hq
          have hR2v : Bg.val R2 = A.getD j.toNat 0 + 65536 * (Bg.val (A.drop (j.toNat + 1)) % V) := by rw [F3.out.2.2.1, F2.out.1, Bg.val, hq.2.2.1]
          obtain ⟨ld1, ld2⟩ := Bg.long_div (Bg.val (A.drop (j.toNat + 1))) (A.getD j.toNat 0) V hVp
          have NEXT : Hid (Dv w w5 A V (j - 1) o5 c5 R3 (Q.set j.toNat d)) := by
            refine ⟨own_below F6.out.1 p6, by rw [List.length_set]; exact hq.1, Bg.dok_set hq.2.1 _ (by have := hd'.out; omega), p2, p3, p1, ⟨p5.1, fun ad h => Nat.le_trans F6.out.2.2.2.1 (p5.2 ad h)⟩, ?_, ?_, F6.out.2.1.trans (p6.mono (by have := F6.out.2.2.2.1; omega)), Nat.le_trans F6.out.2.2.2.1 p6.size⟩
            · rw [show (j - 1 + 1).toNat = j.toNat from by omega, hR3, hR2v, hA2, ld2]
            · rw [show (j - 1 + 1).toNat = j.toNat from by omega, Bg.drop_set Q j.toNat d (by rw [hq.1]; omega), hA2, ld1, hq.2.2.2, F6.out.2.2.2.2.1, hR2v]
          clear p1 p2 p3 p4 p5 p6 hR3 hR3l hA2 hq hR2v ld1 ld2 hj2 hVp
          go_wp2
          go_roundw
          case rel => exact ⟨j - 1, o5, c5, R3, Q.set j.toNat d, rfl, by go_num, by omega, by omega, hR3l', NEXT.out⟩
          case measure => simp [intOf]; omega
end Go.Proofs.Ytdmaaigchfgmdaa
