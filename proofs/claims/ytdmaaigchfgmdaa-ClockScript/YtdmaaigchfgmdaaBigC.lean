/- What minus of the reference's whole numbers returns: the digits of the difference, where the second number is no greater. -/
import Derived.Test.YtdmaaigchfgmdaaBigB
import Derived.WalkKit
import Derived.WalkSpells
import Derived.WalkLawsBesides
namespace Bg
theorem minus_step (A B O : List Nat) (k c d q : Nat) (hk : O.length = k) (hd : d + c + B.getD k 0 = A.getD k 0 + 65536 * q) (h : val O + val (B.take k) = val (A.take k) + 65536 ^ k * c) :
    val (O ++ [d]) + val (B.take (k + 1)) = val (A.take (k + 1)) + 65536 ^ (k + 1) * q := by
  have e : 65536 ^ k * (d + c + B.getD k 0) = 65536 ^ k * (A.getD k 0 + 65536 * q) := by rw [hd]
  rw [Nat.mul_add, Nat.mul_add, Nat.mul_add, ← Nat.mul_assoc] at e
  rw [val_snoc, hk, tk, tk, Nat.pow_succ]
  omega
theorem minus_end (A B O : List Nat) (c : Nat) (ho : dok O) (hl : O.length = A.length) (hb : B.length ≤ A.length) (hv : val B ≤ val A) (h : val O + val (B.take A.length) = val (A.take A.length) + 65536 ^ A.length * c) : val O = val A - val B := by
  rw [val_take_all B _ hb, List.take_length] at h
  have h1 := val_lt O ho
  rw [hl] at h1
  rcases c with _ | c
  · omega
  · have h2 := Nat.mul_le_mul_left (65536 ^ A.length) (show 1 ≤ c + 1 by omega)
    omega
end Bg
namespace Go.Proofs.Ytdmaaigchfgmdaa
open Go.RowKit
theorem minus_fin (A B O : List Nat) (k : Nat) (cn dg cq x y : Int) (v : Value) (wr w : World) (h0 : 0 ≤ cn) (hq0 : 0 ≤ cq) (hd0 : 0 ≤ dg) (hd1 : dg ≤ 65535) (hd : dg + cn + y = x + 65536 * cq) (hx : x = ((A.getD k 0 : Nat) : Int)) (hy : y = ((B.getD k 0 : Nat) : Int))
    (hH : wr.ownsRow w.heap.size 3 1 v k (vals O) ∧ O.length = k ∧ Bg.dok O ∧ Bg.val O + Bg.val (B.take k) = Bg.val (A.take k) + 65536 ^ k * cn.toNat ∧ Below w.heap.size w wr)
    (v' : Value) (w1 : World) (hown : w1.ownsRow w.heap.size 3 1 v' (k + 1) (vals O ++ [.int .i64 dg])) (hg : (wr.alloc (.cells #[.int .i64 dg] 3)).grownBy w1 v.ownBlock) :
    w1.ownsRow w.heap.size 3 1 v' (k + 1) (vals (O ++ [dg.toNat])) ∧ (O ++ [dg.toNat]).length = k + 1 ∧ Bg.dok (O ++ [dg.toNat]) ∧ Bg.val (O ++ [dg.toNat]) + Bg.val (B.take (k + 1)) = Bg.val (A.take (k + 1)) + 65536 ^ (k + 1) * cq.toNat ∧ Below w.heap.size w w1 := by
  have e : dg = ((dg.toNat : Nat) : Int) := by omega
  refine ⟨?_, by simp [hH.2.1], Bg.dok_snoc hH.2.2.1 (by omega), ?_, ?_⟩
  · rw [← vals_snoc, ← e]; exact hown
  · exact Bg.minus_step A B O k cn.toNat dg.toNat cq.toNat hH.2.1 (by omega) hH.2.2.2.1
  · refine (hH.2.2.2.2.alloc hH.2.2.2.2.size _).grown hg (by have := hH.2.2.2.2.size; simp; omega) ?_
    intro j hj
    exact (hH.1.lt j hj).1
set_option maxRecDepth 20000 in
set_option maxHeartbeats 2000000 in
theorem minus_any (ao bo : Option Addr) (A B : List Nat) (ca cb : Nat) (w : World) (hA : (A.length : Int) ≤ 100000) (hBA : (B.length : Int) ≤ A.length) (ra : Rd w ao A) (rb : Rd w bo B) (da : Bg.dok A) (db : Bg.dok B) (hv : Bg.val B ≤ Bg.val A) :
    Calls Try.prog 68 #[.slice ao A.length ca, .slice bo B.length cb] w fun e w' => ∃ (o : Option Addr) (ds : List Nat) (c : Nat), e = .returned (.slice o ds.length c) ∧ ds.length ≤ c ∧ Rd w' o ds ∧ Bg.can ds ∧ Bg.val ds = Bg.val A - Bg.val B ∧ New w.heap.size o c ∧ Below w.heap.size w w' := by
  have ra' : Hid (Rd w ao A) := ra
  have rb' : Hid (Rd w bo B) := rb
  have da' : Hid (Bg.dok A) := da
  have db' : Hid (Bg.dok B) := db
  have hv' : Hid (Bg.val B ≤ Bg.val A) := hv
  obtain ⟨i0, hi, hz0, hz1, hz2⟩ := info_parts info_int
  clear ra rb da db hv
  go_enter Try.func68, Try.ntmps68
  go_wp2
  go_loopw [5, 6, 7] (fun v c i wr => ∃ (k : Nat) (cn : Int) (O : List Nat), i = .int .i64 (k : Int) ∧ c = .int .i64 cn ∧ 0 ≤ cn ∧ cn ≤ 1 ∧ (k : Int) ≤ A.length ∧ Hid (wr.ownsRow w.heap.size 3 1 v k (vals O) ∧ O.length = k ∧ Bg.dok O ∧ Bg.val O + Bg.val (B.take k) = Bg.val (A.take k) + 65536 ^ k * cn.toNat ∧ Below w.heap.size w wr)) (fun _ _ i _ => A.length - (intOf i).toNat)
  case atStart =>
    refine ⟨0, 0, [], rfl, rfl, by omega, by omega, by omega, ?_, rfl, Bg.dok_nil, by simp [Bg.val], (Below.refl _ _).alloc (Nat.le_refl _) _⟩
    exact World.ownsRow_lit w #[] 0 (Nat.le_refl _) (by decide) rfl
  case round =>
    obtain ⟨k, cn, O, rfl, rfl, hc0, hc1, hk, hH⟩ := hrel
    by_cases h1 : (k : Int) < A.length
    · obtain ⟨b, x, g1, g2, g3, hx, x0, x1⟩ := (ra'.out.below hH.out.2.2.2.2 (Nat.le_refl _)).at da'.out k (by omega)
      have hix : ∀ w, Sem.run Try.prog (Instr.indexAt 50 (.slice ao A.length ca) (.int .i64 (k : Int))) w = .ok (.pointer (some ⟨b, k, none⟩)) w := idx_run A.length ca k k g1.out rfl (by omega)
      by_cases h2 : (k : Int) < B.length
      · obtain ⟨c, y, f1, f2, f3, hy, y0, y1⟩ := (rb'.out.below hH.out.2.2.2.2 (Nat.le_refl _)).at db'.out k (by omega)
        have hiy : ∀ w, Sem.run Try.prog (Instr.indexAt 50 (.slice bo B.length cb) (.int .i64 (k : Int))) w = .ok (.pointer (some ⟨c, k, none⟩)) w := idx_run B.length cb k k f1.out rfl (by omega)
        by_cases h3 : x - cn - y < 0
        · obtain ⟨dg, hdg⟩ : ∃ dg : Int, dg = x - cn - y + 65536 := ⟨_, rfl⟩
          have ed : x - cn - y + 65536 = dg := hdg.symm
          have FIN : Hid _ := minus_fin A B O k cn dg 1 x y u5 wr w hc0 (by decide) (by omega) (by omega) (by omega) hx.out hy.out hH.out
          have dg0 : 0 ≤ dg := by omega
          have dg1 : dg ≤ 65535 := by omega
          have hsz : w.heap.size ≤ wr.heap.size := hH.out.2.2.2.2.size
          have OWN : Hid (wr.ownsRow w.heap.size 3 1 u5 k (vals O)) := hH.out.1
          clear hdg
          go_wp2_with (at_builtin; refine wpList_append_own _ rfl _ _ 50 rfl w.heap.size 3 i0 (.int .i64 0) 1 8 Try.underlying50 hi hz0 hz1 hz2 rfl (by decide) _ _ _ rfl (OWN.out.alloc _) ⟨wr.heap.size, 0, none⟩ 1 1 [.int .i64 dg] rfl rfl (cell_new wr dg) (one_new dg) (by unfold maxLen; omega) (by omega) (by simp; omega) ?_)
          intro v' w1 hown' hgrow _
          have RR : Hid _ := FIN.out v' w1 hown' hgrow
          clear hown' hgrow
          go_wp2
          go_roundw
          case rel => exact ⟨k + 1, 1, O ++ [dg.toNat], by go_num, rfl, by decide, by decide, by omega, RR.out⟩
          case measure => simp [intOf]; omega
        · obtain ⟨dg, hdg⟩ : ∃ dg : Int, dg = x - cn - y := ⟨_, rfl⟩
          have ed : x - cn - y = dg := hdg.symm
          have FIN : Hid _ := minus_fin A B O k cn dg 0 x y u5 wr w hc0 (by decide) (by omega) (by omega) (by omega) hx.out hy.out hH.out
          have dg0 : 0 ≤ dg := by omega
          have dg1 : dg ≤ 65535 := by omega
          have hsz : w.heap.size ≤ wr.heap.size := hH.out.2.2.2.2.size
          have OWN : Hid (wr.ownsRow w.heap.size 3 1 u5 k (vals O)) := hH.out.1
          clear hdg
          go_wp2_with (at_builtin; refine wpList_append_own _ rfl _ _ 50 rfl w.heap.size 3 i0 (.int .i64 0) 1 8 Try.underlying50 hi hz0 hz1 hz2 rfl (by decide) _ _ _ rfl (OWN.out.alloc _) ⟨wr.heap.size, 0, none⟩ 1 1 [.int .i64 dg] rfl rfl (cell_new wr dg) (one_new dg) (by unfold maxLen; omega) (by omega) (by simp; omega) ?_)
          intro v' w1 hown' hgrow _
          have RR : Hid _ := FIN.out v' w1 hown' hgrow
          clear hown' hgrow
          go_wp2
          go_roundw
          case rel => exact ⟨k + 1, 0, O ++ [dg.toNat], by go_num, rfl, by decide, by decide, by omega, RR.out⟩
          case measure => simp [intOf]; omega
      · by_cases h3 : x - cn < 0
        · obtain ⟨dg, hdg⟩ : ∃ dg : Int, dg = x - cn + 65536 := ⟨_, rfl⟩
          have ed : x - cn + 65536 = dg := hdg.symm
          have FIN : Hid _ := minus_fin A B O k cn dg 1 x 0 u5 wr w hc0 (by decide) (by omega) (by omega) (by omega) hx.out (by rw [Bg.getD_out B k (by omega)]; rfl) hH.out
          have dg0 : 0 ≤ dg := by omega
          have dg1 : dg ≤ 65535 := by omega
          have hsz : w.heap.size ≤ wr.heap.size := hH.out.2.2.2.2.size
          have OWN : Hid (wr.ownsRow w.heap.size 3 1 u5 k (vals O)) := hH.out.1
          clear hdg
          go_wp2_with (at_builtin; refine wpList_append_own _ rfl _ _ 50 rfl w.heap.size 3 i0 (.int .i64 0) 1 8 Try.underlying50 hi hz0 hz1 hz2 rfl (by decide) _ _ _ rfl (OWN.out.alloc _) ⟨wr.heap.size, 0, none⟩ 1 1 [.int .i64 dg] rfl rfl (cell_new wr dg) (one_new dg) (by unfold maxLen; omega) (by omega) (by simp; omega) ?_)
          intro v' w1 hown' hgrow _
          have RR : Hid _ := FIN.out v' w1 hown' hgrow
          clear hown' hgrow
          go_wp2
          go_roundw
          case rel => exact ⟨k + 1, 1, O ++ [dg.toNat], by go_num, rfl, by decide, by decide, by omega, RR.out⟩
          case measure => simp [intOf]; omega
        · obtain ⟨dg, hdg⟩ : ∃ dg : Int, dg = x - cn := ⟨_, rfl⟩
          have ed : x - cn = dg := hdg.symm
          have FIN : Hid _ := minus_fin A B O k cn dg 0 x 0 u5 wr w hc0 (by decide) (by omega) (by omega) (by omega) hx.out (by rw [Bg.getD_out B k (by omega)]; rfl) hH.out
          have dg0 : 0 ≤ dg := by omega
          have dg1 : dg ≤ 65535 := by omega
          have hsz : w.heap.size ≤ wr.heap.size := hH.out.2.2.2.2.size
          have OWN : Hid (wr.ownsRow w.heap.size 3 1 u5 k (vals O)) := hH.out.1
          clear hdg
          go_wp2_with (at_builtin; refine wpList_append_own _ rfl _ _ 50 rfl w.heap.size 3 i0 (.int .i64 0) 1 8 Try.underlying50 hi hz0 hz1 hz2 rfl (by decide) _ _ _ rfl (OWN.out.alloc _) ⟨wr.heap.size, 0, none⟩ 1 1 [.int .i64 dg] rfl rfl (cell_new wr dg) (one_new dg) (by unfold maxLen; omega) (by omega) (by simp; omega) ?_)
          intro v' w1 hown' hgrow _
          have RR : Hid _ := FIN.out v' w1 hown' hgrow
          clear hown' hgrow
          go_wp2
          go_roundw
          case rel => exact ⟨k + 1, 0, O ++ [dg.toNat], by go_num, rfl, by decide, by decide, by omega, RR.out⟩
          case measure => simp [intOf]; omega
    · obtain ⟨o, cc, rfl, o1, o2, o3⟩ := own_rd (by rw [hH.out.2.1]; exact hH.out.1 : wr.ownsRow w.heap.size 3 1 u5 O.length (vals O))
      have hk' : Hid (O.length = k) := hH.out.2.1
      have hkA : Hid (k = A.length) := by show _ = _; omega
      go_wp2_with fail
      refine (trim_any o O cc _ (by have := hk'.out; omega) (by omega) o2 hH.out.2.2.1).mono ?_
      rintro e w2 ⟨m, rfl, t1, t2, t3, rfl⟩
      have TT : Hid (m ≤ O.length ∧ Bg.can (O.take m) ∧ Bg.val (O.take m) = Bg.val O) := ⟨t1, t2, t3⟩
      have RD : Hid (Rd w2 o O ∧ O.length ≤ cc) := ⟨o2, o1⟩
      have NN : Hid (New w.heap.size o cc) := o3
      clear t1 t2 t3 o1 o2 o3
      go_wp2
      go_ret
      obtain ⟨t1, t2, t3⟩ := TT.out
      have hl : (O.take m).length = m := by rw [List.length_take]; omega
      refine ⟨o, O.take m, cc, ret_slice hl.symm, by rw [hl]; have := RD.out.2; omega, RD.out.1.take m, t2, ?_, NN.out, hH.out.2.2.2.2⟩
      have hs := hH.out.2.2.2.1
      have hke := hkA.out
      rw [t3]
      rw [hke] at hs
      exact Bg.minus_end A B O cn.toNat hH.out.2.2.1 (by have := hk'.out; omega) (by omega) hv'.out hs
end Go.Proofs.Ytdmaaigchfgmdaa
