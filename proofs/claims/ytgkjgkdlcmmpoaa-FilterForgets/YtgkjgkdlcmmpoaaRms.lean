/- What meanSquare and RMS of package fixed return, for a slice of at most 65536 numbers: the mean of the squares in two words; the root of it. -/
import Derived.Test.YtgkjgkdlcmmpoaaRootF
import Derived.Test.YtgkjgkdlcmmpoaaBigK
import Derived.WalkKit
import Derived.ProofKit
import Derived.WalkSpells
import Derived.WalkLawsBesides
import Derived.Laws.Externs
namespace Sq
/-- the square of a number that is saturated -/
def sq (z : Int) : Nat := (Fx.cl 4611686018427387904 z).natAbs * (Fx.cl 4611686018427387904 z).natAbs
def sum : List Int → Nat
  | [] => 0
  | z :: r => sq z + sum r
theorem sum_append (a b : List Int) : sum (a ++ b) = sum a + sum b := by
  induction a with
  | nil => simp [sum]
  | cons z r ih => rw [List.cons_append, sum, sum, ih]; omega
theorem take_succ (a : List Int) (k : Nat) (h : k < a.length) : sum (a.take (k + 1)) = sum (a.take k) + sq (a.getD k 0) := by
  rw [List.take_succ_eq_append_getElem h, sum_append, List.getD_eq_getElem?_getD, List.getElem?_eq_getElem h]
  simp [sum]
theorem sq_le (z : Int) : sq z ≤ 21267647932558653966460912964485513216 := by
  have h := Fx.cl_bd (m := 4611686018427387904) (by decide) z
  have h1 : (Fx.cl 4611686018427387904 z).natAbs ≤ 4611686018427387904 := by omega
  exact Nat.mul_le_mul h1 h1
theorem sum_le (a : List Int) : sum a ≤ a.length * 21267647932558653966460912964485513216 := by
  induction a with
  | nil => simp [sum]
  | cons z r ih =>
    have := sq_le z
    rw [sum, List.length_cons]
    omega
/-- a number in two parts, divided in two steps -/
theorem stepsK (W L n K : Nat) (hn : 0 < n) (hL : L < K) : ((W * K + L) / n) / K = W / n ∧ ((W * K + L) / n) % K = (W % n * K + L) / n := by
  have hd := Nat.div_add_mod W n
  have hm := Nat.mod_lt W hn
  generalize W / n = q at *
  generalize W % n = r at *
  have hK : 0 < K := by omega
  have e : W * K + L = r * K + L + n * (q * K) := by
    rw [← hd, Nat.add_mul, Nat.mul_assoc]; omega
  have hl : (r * K + L) / n < K := by
    rw [Nat.div_lt_iff_lt_mul hn]
    have := Nat.mul_le_mul_right K (show r + 1 ≤ n from hm)
    rw [Nat.add_mul, Nat.one_mul] at this
    rw [Nat.mul_comm K n]
    omega
  rw [e, Nat.add_mul_div_left _ _ hn]
  generalize (r * K + L) / n = x at *
  rw [Nat.add_mul_div_right _ _ hK, Nat.add_mul_mod_self_right, Nat.div_eq_of_lt hl, Nat.mod_eq_of_lt hl, Nat.zero_add]
  exact ⟨rfl, rfl⟩
theorem two_steps (T H L n : Nat) (hT : T < n) (hL : L < 18446744073709551616) :
    (((T * 18446744073709551616 + H) * 18446744073709551616 + L) / n) / 18446744073709551616 = (T * 18446744073709551616 + H) / n ∧
    (((T * 18446744073709551616 + H) * 18446744073709551616 + L) / n) % 18446744073709551616 = ((T * 18446744073709551616 + H) % n * 18446744073709551616 + L) / n :=
  stepsK _ _ _ _ (Nat.lt_of_le_of_lt (Nat.zero_le _) hT) hL
end Sq
namespace Go.Proofs.Ytgkjgkdlcmmpoaa
open Go.RowKit
theorem add64_run (x y c : Nat) (hc : c ≤ 1) (w : World) :
    (callFunc 60 #[.int .u64 x, .int .u64 y, .int .u64 c]).run Try.prog w =
      .ok (.value (.tuple #[.int .u64 (((x + y + c) % 18446744073709551616 : Nat) : Int), .int .u64 (((x + y + c) / 18446744073709551616 : Nat) : Int)])) w := by
  rw [run_callFunc_extern Try.func60 (by kernel_rfl) (by kernel_rfl) (by kernel_rfl) (e := add64Entry) (by kernel_rfl), run_add64 x y c (by omega) (by omega) (by omega) (by omega)]
  simp only [Result.andThen]
  congr 5 <;> omega
theorem add64_int (x y c s q : Int) (h0 : 0 ≤ x) (h1 : 0 ≤ y) (h2 : 0 ≤ c) (hc : c ≤ 1) (hs : s = (x + y + c) % 18446744073709551616) (hq : q = (x + y + c) / 18446744073709551616) (w : World) :
    (callFunc 60 #[.int .u64 x, .int .u64 y, .int .u64 c]).run Try.prog w = .ok (.value (.tuple #[.int .u64 s, .int .u64 q])) w := by
  obtain ⟨X, rfl⟩ := Int.eq_ofNat_of_zero_le h0
  obtain ⟨Y, rfl⟩ := Int.eq_ofNat_of_zero_le h1
  obtain ⟨C, rfl⟩ := Int.eq_ofNat_of_zero_le h2
  rw [add64_run X Y C (by omega) w, hs, hq]
  congr 5 <;> omega
/-- a slice of numbers at an address reads as these -/
def Rs (w : World) (ao : Option Addr) (zs : List Int) : Prop := ∀ k, k < zs.length → ∃ ad, ao = some ad ∧ ad.block < w.heap.size ∧ w.cell? (ad.add k) = some (.int .i64 (zs.getD k 0))
theorem add_block (ad : Addr) (k : Nat) : (ad.add k).block = ad.block := by unfold Addr.add; split <;> rfl
theorem Rs.below {B : Nat} {w w' : World} {ao : Option Addr} {zs : List Int} (h : Rs w ao zs) (hb : Below B w w') (hB : w.heap.size ≤ B) : Rs w' ao zs := fun k hk => by
  obtain ⟨ad, h1, h2, h3⟩ := h k hk
  exact ⟨ad, h1, Nat.lt_of_lt_of_le h2 hb.size, (hb.cell (p := ad.add k) (by rw [add_block]; omega)).trans h3⟩
theorem Rs.take {w : World} {ao : Option Addr} {zs : List Int} (h : Rs w ao zs) (m : Nat) : Rs w ao (zs.take m) := fun k hk => by
  rw [List.length_take] at hk
  obtain ⟨ad, h1, h2, h3⟩ := h k (by omega)
  refine ⟨ad, h1, h2, ?_⟩
  rw [List.getD_eq_getElem?_getD, List.getElem?_take_of_lt (by omega), ← List.getD_eq_getElem?_getD]
  exact h3
def okz (zs : List Int) : Prop := ∀ z ∈ zs, -9223372036854775808 ≤ z ∧ z ≤ 9223372036854775807
theorem okz_at {zs : List Int} (h : okz zs) (k : Nat) : -9223372036854775808 ≤ zs.getD k 0 ∧ zs.getD k 0 ≤ 9223372036854775807 := by
  by_cases hk : k < zs.length
  · rw [List.getD_eq_getElem?_getD, List.getElem?_eq_getElem hk]; exact h _ (List.getElem_mem hk)
  · rw [List.getD_eq_getElem?_getD, List.getElem?_eq_none (by omega)]; simp
theorem okz_take {zs : List Int} (h : okz zs) (m : Nat) : okz (zs.take m) := fun z hz => h z (List.mem_of_mem_take hz)
theorem Rs.at {w : World} {ao : Option Addr} {zs : List Int} (h : Rs w ao zs) (hd : okz zs) (k : Nat) (hk : k < zs.length) :
    ∃ (ad : Addr) (x : Int), Hid (ao = some ad) ∧ w.cell? (ad.add k) = some (.int .i64 x) ∧ Hid (x = zs.getD k 0) ∧ -9223372036854775808 ≤ x ∧ x ≤ 9223372036854775807 := by
  obtain ⟨ad, h1, h2, h3⟩ := h k hk
  obtain ⟨b1, b2⟩ := okz_at hd k
  exact ⟨ad, _, h1, h3, rfl, b1, b2⟩
theorem idx_run2 {ao : Option Addr} {ad : Addr} (n cap k : Nat) (i : Int) (h : ao = some ad) (hi : i = (k : Int)) (hk : (k : Int) < n) (w : World) : Sem.run Try.prog (Instr.indexAt 60 (.slice ao n cap) (.int .i64 i)) w = .ok (.pointer (some (ad.add k))) w := by
  subst h hi
  have u46 := Try.underlying60
  have u3 := Try.underlying23
  have c3 : Try.prog.cellsOf 23 = 1 := by kernel_rfl
  have h0 : (0 : Int) ≤ k := Int.natCast_nonneg k
  go_simp
set_option maxRecDepth 20000 in
set_option maxHeartbeats 2000000 in
theorem meanSquare_any (ao : Option Addr) (zs : List Int) (cap : Nat) (w : World) (h0 : 0 < (zs.length : Int)) (h1 : (zs.length : Int) ≤ 64) (ra : Rs w ao zs) (da : okz zs) :
    Calls Try.prog 49 #[.slice ao zs.length cap] w fun e w' => ∃ M : Nat, e = .returned (.agg #[.int .u64 ((M / 18446744073709551616 : Nat) : Int), .int .u64 ((M % 18446744073709551616 : Nat) : Int)]) ∧ M = Sq.sum zs / zs.length ∧ Below w.heap.size w w' := by
  have ra' : Hid (Rs w ao zs) := ra
  have da' : Hid (okz zs) := da
  clear ra da
  go_enter Try.func49, Try.ntmps49
  go_wp2
  go_loop [3, 4, 5, 11, 19] (fun t h l c i => ∃ (k : Nat) (tt hh ll : Int), t = .int .u64 tt ∧ h = .int .u64 hh ∧ l = .int .u64 ll ∧ i = .int .i64 (k : Int) ∧ (k : Int) ≤ zs.length ∧ 0 ≤ tt ∧ tt ≤ (k : Int) ∧ 0 ≤ hh ∧ hh < 18446744073709551616 ∧ 0 ≤ ll ∧ ll < 18446744073709551616 ∧ Hid (((Sq.sum (zs.take k) : Nat) : Int) = tt * 340282366920938463463374607431768211456 + hh * 18446744073709551616 + ll)) (fun _ _ _ _ i => zs.length - (intOf i).toNat)
  case atStart => exact ⟨0, 0, 0, 0, rfl, rfl, rfl, rfl, by omega, by omega, by omega, by omega, by omega, by omega, by omega, by simp [Sq.sum, Hid]⟩
  case round =>
    obtain ⟨k, tt, hh, ll, rfl, rfl, rfl, rfl, hk, t0, t1, hh0, hh1, l0, l1, hS⟩ := hrel
    by_cases hlt : (k : Int) < zs.length
    · obtain ⟨ad, x, g1, g2, hx, x0, x1⟩ := (ra'.out.below ((Below.refl w.heap.size w).alloc (Nat.le_refl _) (.cells #[.int .u64 0, .int .u64 0] 79)) (Nat.le_refl _)).at da'.out k (by omega)
      have hix : ∀ w, Sem.run Try.prog (Instr.indexAt 60 (.slice ao zs.length cap) (.int .i64 (k : Int))) w = .ok (.pointer (some (ad.add k))) w := idx_run2 zs.length cap k k g1.out rfl (by omega)
      go_wp2_with fail
      refine (abs_any x _ x0 x1).mono ?_
      rintro e v1 ⟨rfl, hv⟩
      rw [hv]; clear hv
      obtain ⟨D, hD⟩ : ∃ D : Nat, D = (Fx.cl 4611686018427387904 x).natAbs := ⟨_, rfl⟩
      obtain ⟨di, hdi⟩ : ∃ di : Int, di = Fx.cl 4611686018427387904 (x.natAbs : Int) := ⟨_, rfl⟩
      rw [← hdi]
      have hDD : di = (D : Int) := by rw [hdi, hD]; unfold Fx.cl; omega
      have di0 : 0 ≤ di := by omega
      have di1 : di ≤ 4611686018427387904 := by rw [hdi]; exact (Fx.cl_bd (by decide) _).2
      have HD : Hid (di = (D : Int) ∧ D * D = Sq.sq x) := ⟨hDD, by rw [hD]; rfl⟩
      clear hD hdi hDD g2
      go_wp2_with fail
      refine (mul64_int di di D D HD.out.1 HD.out.1 _ (by have := HD.out.1; omega) (by have := HD.out.1; omega)).mono ?_
      rintro e v1 ⟨rfl, hv⟩
      rw [hv]; clear hv
      obtain ⟨th, hth, th0⟩ := nat_int (D * D / 18446744073709551616)
      obtain ⟨tl, htl, tl0⟩ := nat_int (D * D % 18446744073709551616)
      rw [← hth, ← htl]
      have tl1 : tl < 18446744073709551616 := by omega
      have hDb : D * D ≤ 21267647932558653966460912964485513216 := by rw [HD.out.2]; exact Sq.sq_le x
      have th1 : th ≤ 1152921504606846976 := by omega
      have HT : Hid (th = ((D * D / 18446744073709551616 : Nat) : Int) ∧ tl = ((D * D % 18446744073709551616 : Nat) : Int)) := ⟨hth, htl⟩
      clear hth htl hDb
      obtain ⟨s1, hs1⟩ : ∃ s1 : Int, s1 = (ll + tl + 0) % 18446744073709551616 := ⟨_, rfl⟩
      obtain ⟨q1, hq1⟩ : ∃ q1 : Int, q1 = (ll + tl + 0) / 18446744073709551616 := ⟨_, rfl⟩
      have q10 : 0 ≤ q1 := by omega
      have q11 : q1 ≤ 1 := by omega
      obtain ⟨s2, hs2⟩ : ∃ s2 : Int, s2 = (hh + th + q1) % 18446744073709551616 := ⟨_, rfl⟩
      obtain ⟨q2, hq2⟩ : ∃ q2 : Int, q2 = (hh + th + q1) / 18446744073709551616 := ⟨_, rfl⟩
      have q20 : 0 ≤ q2 := by omega
      have q21 : q2 ≤ 1 := by omega
      have s10 : 0 ≤ s1 := by omega
      have s11 : s1 < 18446744073709551616 := by omega
      have s20 : 0 ≤ s2 := by omega
      have s21 : s2 < 18446744073709551616 := by omega
      have ad1 : ∀ w, (callFunc 60 #[.int .u64 ll, .int .u64 tl, .int .u64 0]).run Try.prog w = .ok (.value (.tuple #[.int .u64 s1, .int .u64 q1])) w := add64_int ll tl 0 s1 q1 l0 tl0 (by decide) (by decide) hs1 hq1
      have ad2 : ∀ w, (callFunc 60 #[.int .u64 hh, .int .u64 th, .int .u64 q1]).run Try.prog w = .ok (.value (.tuple #[.int .u64 s2, .int .u64 q2])) w := add64_int hh th q1 s2 q2 hh0 th0 q10 q11 hs2 hq2
      have NX : Hid (((Sq.sum (zs.take (k + 1)) : Nat) : Int) = (tt + q2) * 340282366920938463463374607431768211456 + s2 * 18446744073709551616 + s1) := by
        have e1 := hS.out
        have e2 := HT.out
        have e3 := HD.out.2
        show _ = _
        rw [Sq.take_succ zs k (by omega), ← hx.out, ← e3]
        generalize D * D = DD at *
        omega
      clear hs1 hq1 hs2 hq2
      go_wp2_with fail
      go_round
      case rel => exact ⟨k + 1, tt + q2, s2, s1, rfl, rfl, rfl, by go_num, by omega, by omega, by omega, s20, s21, s10, s11, NX.out⟩
      case measure => simp [intOf]; omega
    · obtain ⟨n, hn⟩ : ∃ n : Nat, n = zs.length := ⟨_, rfl⟩
      have hkn : k = zs.length := by omega
      obtain ⟨T, hT⟩ := Int.eq_ofNat_of_zero_le t0
      obtain ⟨Hh, hHh⟩ := Int.eq_ofNat_of_zero_le hh0
      obtain ⟨Ll, hLl⟩ := Int.eq_ofNat_of_zero_le l0
      have hsum : Sq.sum zs = (T * 18446744073709551616 + Hh) * 18446744073709551616 + Ll := by
        have e := hS.out
        rw [hkn, List.take_length, hT, hHh, hLl] at e
        omega
      have hTn : T < zs.length := by
        have := Sq.sum_le zs
        rw [hsum] at this
        omega
      obtain ⟨m1, m2⟩ := Sq.two_steps T Hh Ll zs.length hTn (by omega)
      have HM : Hid (tt = (T : Int) ∧ hh = (Hh : Int) ∧ ll = (Ll : Int) ∧ T < zs.length ∧ Hh < 18446744073709551616 ∧ Ll < 18446744073709551616 ∧ Sq.sum zs = (T * 18446744073709551616 + Hh) * 18446744073709551616 + Ll) := ⟨hT, hHh, hLl, hTn, by omega, by omega, hsum⟩
      clear hT hHh hLl hsum hTn hn hkn
      have H12 : Hid _ := And.intro m1 m2
      clear m1 m2
      obtain ⟨rs, hrs, rs0⟩ := nat_int ((T * 18446744073709551616 + Hh) % zs.length)
      obtain ⟨mh, hmh, mh0⟩ := nat_int ((T * 18446744073709551616 + Hh) / zs.length)
      obtain ⟨ml, hml, ml0⟩ := nat_int (((T * 18446744073709551616 + Hh) % zs.length * 18446744073709551616 + Ll) / zs.length)
      have HR : Hid (rs = (((T * 18446744073709551616 + Hh) % zs.length : Nat) : Int) ∧ mh = (((T * 18446744073709551616 + Hh) / zs.length : Nat) : Int) ∧ ml = ((((T * 18446744073709551616 + Hh) % zs.length * 18446744073709551616 + Ll) / zs.length : Nat) : Int)) := ⟨hrs, hmh, hml⟩
      clear hrs hmh hml
      go_wp2_with fail
      refine (div64_int tt hh _ T Hh zs.length HM.out.1 HM.out.2.1 rfl _ HM.out.2.2.2.1 HM.out.2.2.2.2.1 (by omega)).mono ?_
      rintro e v1 ⟨rfl, d1, hv⟩
      rw [hv, ← HR.out.1, ← HR.out.2.1]; clear hv
      go_wp2_with fail
      refine (div64_int rs ll _ _ Ll zs.length HR.out.1 HM.out.2.2.1 rfl _ (Nat.mod_lt _ (by omega)) HM.out.2.2.2.2.2.1 (by omega)).mono ?_
      rintro e v2 ⟨rfl, d2, hv⟩
      rw [hv, ← HR.out.2.2]; clear hv
      go_wp2
      refine bodyPost_ret (v := .agg #[.int .u64 mh, .int .u64 ml]) (by simp [results, Try.results49, go_sem]) rfl ⟨Sq.sum zs / zs.length, ?_, rfl, ?_⟩
      · rw [HR.out.2.1, HR.out.2.2, HM.out.2.2.2.2.2.2, H12.out.1, H12.out.2]
      · exact ((below_drewN ((Below.refl _ _).alloc (Nat.le_refl _) _) _).setCell (Nat.le_refl _) _).setCell (Nat.le_refl _) _
end Go.Proofs.Ytgkjgkdlcmmpoaa
