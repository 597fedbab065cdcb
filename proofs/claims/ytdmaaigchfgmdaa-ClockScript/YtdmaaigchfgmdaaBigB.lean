/- What plus of the reference's whole numbers returns: the digits of the sum. -/
import Derived.Test.YtdmaaigchfgmdaaBigA
import Derived.WalkKit
import Derived.WalkSpells
import Derived.WalkLawsBesides
namespace Bg
theorem tk (a : List Nat) (k : Nat) : val (a.take (k + 1)) = val (a.take k) + 65536 ^ k * a.getD k 0 := by
  by_cases h : k < a.length
  · exact val_take_succ a k h
  · rw [List.take_of_length_le (by omega), List.take_of_length_le (by omega), List.getD_eq_getElem?_getD, List.getElem?_eq_none (by omega)]
    simp
theorem plus_step (A B O : List Nat) (k c d q : Nat) (hk : O.length = k) (hd : d + 65536 * q = c + A.getD k 0 + B.getD k 0) (h : val O + 65536 ^ k * c = val (A.take k) + val (B.take k)) :
    val (O ++ [d]) + 65536 ^ (k + 1) * q = val (A.take (k + 1)) + val (B.take (k + 1)) := by
  have e : 65536 ^ k * (d + 65536 * q) = 65536 ^ k * (c + A.getD k 0 + B.getD k 0) := by rw [hd]
  rw [Nat.mul_add, Nat.mul_add, Nat.mul_add, ← Nat.mul_assoc] at e
  rw [val_snoc, hk, tk, tk, Nat.pow_succ]
  omega
theorem getD_out (a : List Nat) (k : Nat) (h : a.length ≤ k) : a.getD k 0 = 0 := by
  rw [List.getD_eq_getElem?_getD, List.getElem?_eq_none h]; rfl
end Bg
namespace Go.Proofs.Ytdmaaigchfgmdaa
open Go.RowKit
theorem info_int : (Try.prog.info? 3).map (fun i => (i.zero, i.size, i.bytes)) = some (some (.int .i64 0), 1, 8) := by kernel_rfl
def vals (O : List Nat) : List Value := O.map fun d => .int .i64 ((d : Nat) : Int)
theorem vals_snoc (O : List Nat) (d : Nat) : vals O ++ [.int .i64 (d : Int)] = vals (O ++ [d]) := by simp [vals]
theorem vals_len (O : List Nat) : (vals O).length = O.length := by simp [vals]
/-- nil without capacity, or in a block from a number on -/
def New (B : Nat) (o : Option Addr) (c : Nat) : Prop := (o = none → c = 0) ∧ ∀ ad, o = some ad → B ≤ ad.block
theorem own_rd {w : World} {base : Nat} {v : Value} {O : List Nat} (h : w.ownsRow base 3 1 v O.length (vals O)) : ∃ (o : Option Addr) (c : Nat), v = .slice o O.length c ∧ O.length ≤ c ∧ Rd w o O ∧ New base o c := by
  have h0 := h
  obtain ⟨hl, ⟨rfl, h2⟩ | ⟨g, cap, cur, rfl, hb, hg, hc, hm, hs, ht⟩⟩ := h
  · exact ⟨none, 0, by rw [h2], by omega, fun k hk => absurd hk (by omega), fun _ => rfl, fun ad x => by simp at x⟩
  · refine ⟨_, cap, rfl, hc, fun k hk => ⟨g, rfl, ?_, ?_⟩, fun x => by simp at x, fun ad x => by simp at x; subst x; exact hb⟩
    · exact (Array.getElem?_eq_some_iff.1 hg).1
    · rw [h0.cellAt k (by omega)]
      unfold vals
      rw [List.getElem?_map, List.getElem?_eq_getElem hk, Bg.getD_at _ _ hk]
      rfl
theorem cell_new (w : World) (d : Int) : ∀ j u, [Value.int .i64 d][j]? = some u → (w.alloc (.cells #[.int .i64 d] 3)).cell? ((⟨w.heap.size, 0, none⟩ : Addr).add j) = some u := by
  intro j u hj
  match j, hj with
  | 0, hj => simp at hj; subst hj; simp [Addr.add]
theorem one_new (d : Int) : ∀ u ∈ [Value.int .i64 d], u.oneCell' = true := by
  intro u hu; simp at hu; subst hu; rfl
theorem ret_slice {o : Option Addr} {n m c : Nat} (h : n = m) : Ending.returned (.slice o n c) = .returned (.slice o m c) := by rw [h]
theorem plus_fin (A B O : List Nat) (k : Nat) (cn dg cq x y : Int) (v : Value) (wr w : World) (h0 : 0 ≤ cn) (hx0 : 0 ≤ x) (hy0 : 0 ≤ y) (hd : dg = (cn + x + y) % 65536) (hq : cq = (cn + x + y) / 65536) (hx : x = ((A.getD k 0 : Nat) : Int)) (hy : y = ((B.getD k 0 : Nat) : Int))
    (hH : wr.ownsRow w.heap.size 3 1 v k (vals O) ∧ O.length = k ∧ Bg.dok O ∧ Bg.val O + 65536 ^ k * cn.toNat = Bg.val (A.take k) + Bg.val (B.take k) ∧ Below w.heap.size w wr)
    (v' : Value) (w1 : World) (hown : w1.ownsRow w.heap.size 3 1 v' (k + 1) (vals O ++ [.int .i64 dg])) (hg : (wr.alloc (.cells #[.int .i64 dg] 3)).grownBy w1 v.ownBlock) :
    w1.ownsRow w.heap.size 3 1 v' (k + 1) (vals (O ++ [dg.toNat])) ∧ (O ++ [dg.toNat]).length = k + 1 ∧ Bg.dok (O ++ [dg.toNat]) ∧ Bg.val (O ++ [dg.toNat]) + 65536 ^ (k + 1) * cq.toNat = Bg.val (A.take (k + 1)) + Bg.val (B.take (k + 1)) ∧ Below w.heap.size w w1 := by
  have e : dg = ((dg.toNat : Nat) : Int) := by omega
  refine ⟨?_, by simp [hH.2.1], Bg.dok_snoc hH.2.2.1 (by omega), ?_, ?_⟩
  · rw [← vals_snoc, ← e]; exact hown
  · exact Bg.plus_step A B O k cn.toNat dg.toNat cq.toNat hH.2.1 (by omega) hH.2.2.2.1
  · refine (hH.2.2.2.2.alloc hH.2.2.2.2.size _).grown hg (by have := hH.2.2.2.2.size; simp; omega) ?_
    intro j hj
    exact (hH.1.lt j hj).1
set_option maxHeartbeats 2000000 in
theorem plus_any (ao bo : Option Addr) (A B : List Nat) (ca cb : Nat) (w : World) (hA : (A.length : Int) ≤ 100000) (hB : (B.length : Int) ≤ 100000) (ra : Rd w ao A) (rb : Rd w bo B) (da : Bg.dok A) (db : Bg.dok B) :
    Calls Try.prog 67 #[.slice ao A.length ca, .slice bo B.length cb] w fun e w' => ∃ (o : Option Addr) (ds : List Nat) (c : Nat), e = .returned (.slice o ds.length c) ∧ ds.length ≤ c ∧ Rd w' o ds ∧ Bg.can ds ∧ Bg.val ds = Bg.val A + Bg.val B ∧ New w.heap.size o c ∧ Below w.heap.size w w' := by
  have ra' : Hid (Rd w ao A) := ra
  have rb' : Hid (Rd w bo B) := rb
  have da' : Hid (Bg.dok A) := da
  have db' : Hid (Bg.dok B) := db
  obtain ⟨i0, hi, hz0, hz1, hz2⟩ := info_parts info_int
  obtain ⟨M, hM⟩ : ∃ M : Nat, M = max A.length B.length := ⟨_, rfl⟩
  have hMa : (A.length : Int) ≤ M := by omega
  have hMb : (B.length : Int) ≤ M := by omega
  have hM1 : (M : Int) ≤ 100000 := by omega
  have hM' : Hid (M = max A.length B.length) := hM
  clear ra rb da db hM
  go_enter Try.func67, Try.ntmps67
  go_wp2
  go_loopw [5, 6, 7] (fun v c i wr => ∃ (k : Nat) (cn : Int) (O : List Nat), i = .int .i64 (k : Int) ∧ c = .int .i64 cn ∧ 0 ≤ cn ∧ cn ≤ 1 ∧ (k : Int) ≤ M + 1 ∧ ((k : Int) ≤ M ∨ cn = 0) ∧ Hid (wr.ownsRow w.heap.size 3 1 v k (vals O) ∧ O.length = k ∧ Bg.dok O ∧ Bg.val O + 65536 ^ k * cn.toNat = Bg.val (A.take k) + Bg.val (B.take k) ∧ Below w.heap.size w wr)) (fun _ _ i _ => M + 2 - (intOf i).toNat)
  case atStart =>
    refine ⟨0, 0, [], rfl, rfl, by omega, by omega, by omega, by omega, ?_, rfl, Bg.dok_nil, by simp [Bg.val], (Below.refl _ _).alloc (Nat.le_refl _) _⟩
    exact World.ownsRow_lit w #[] 0 (Nat.le_refl _) (by decide) rfl
  case round =>
    obtain ⟨k, cn, O, rfl, rfl, hc0, hc1, hk, hor, hH⟩ := hrel
    by_cases h1 : (k : Int) < A.length
    · by_cases h2 : (k : Int) < B.length
      · obtain ⟨b, x, g1, g2, g3, hx, x0, x1⟩ := (ra'.out.below hH.out.2.2.2.2 (Nat.le_refl _)).at da'.out k (by omega)
        have hix : ∀ w, Sem.run Try.prog (Instr.indexAt 50 (.slice ao A.length ca) (.int .i64 (k : Int))) w = .ok (.pointer (some ⟨b, k, none⟩)) w := idx_run A.length ca k k g1.out rfl (by omega)
        obtain ⟨c, y, f1, f2, f3, hy, y0, y1⟩ := (rb'.out.below hH.out.2.2.2.2 (Nat.le_refl _)).at db'.out k (by omega)
        have hiy : ∀ w, Sem.run Try.prog (Instr.indexAt 50 (.slice bo B.length cb) (.int .i64 (k : Int))) w = .ok (.pointer (some ⟨c, k, none⟩)) w := idx_run B.length cb k k f1.out rfl (by omega)
        obtain ⟨dg, hdg⟩ : ∃ dg : Int, dg = (cn + x + y) % 65536 := ⟨_, rfl⟩
        obtain ⟨cq, hcq⟩ : ∃ cq : Int, cq = (cn + x + y) / 65536 := ⟨_, rfl⟩
        have ed : (cn + x + y) % 65536 = dg := hdg.symm
        have eq : (cn + x + y) / 65536 = cq := hcq.symm
        have fin := plus_fin A B O k cn dg cq x y u5 wr w hc0 (by omega) (by omega) (by omega) (by omega) hx.out hy.out hH.out
        have dg0 : 0 ≤ dg := by omega
        have dg1 : dg ≤ 65535 := by omega
        have cq0 : 0 ≤ cq := by omega
        have cq1 : cq ≤ 1 := by omega
        have hown := hH.out.1
        have hsz : w.heap.size ≤ wr.heap.size := hH.out.2.2.2.2.size
        have FIN : Hid _ := fin
        have OWN : Hid (wr.ownsRow w.heap.size 3 1 u5 k (vals O)) := hown
        have DQ : Hid (dg = (cn + x + y) % 65536 ∧ cq = (cn + x + y) / 65536) := ⟨hdg, hcq⟩
        clear fin hdg hcq hown
        go_wp2_with (at_builtin; refine wpList_append_own _ rfl _ _ 50 rfl w.heap.size 3 i0 (.int .i64 0) 1 8 Try.underlying50 hi hz0 hz1 hz2 rfl (by decide) _ _ _ rfl (OWN.out.alloc _) ⟨wr.heap.size, 0, none⟩ 1 1 [.int .i64 dg] rfl rfl (cell_new wr dg) (one_new dg) (by unfold maxLen; omega) (by omega) (by simp; omega) ?_)
        intro v' w1 hown' hgrow _
        have R := FIN.out v' w1 hown' hgrow
        clear hown' hgrow
        have RR : Hid _ := R
        clear R
        go_wp2
        go_roundw
        case rel => exact ⟨k + 1, cq, O ++ [dg.toNat], by go_num, congrArg (Value.int .i64) eq, cq0, cq1, by omega, by have := DQ.out; omega, RR.out⟩
        case measure => simp [intOf]; omega
      · obtain ⟨b, x, g1, g2, g3, hx, x0, x1⟩ := (ra'.out.below hH.out.2.2.2.2 (Nat.le_refl _)).at da'.out k (by omega)
        have hix : ∀ w, Sem.run Try.prog (Instr.indexAt 50 (.slice ao A.length ca) (.int .i64 (k : Int))) w = .ok (.pointer (some ⟨b, k, none⟩)) w := idx_run A.length ca k k g1.out rfl (by omega)
        obtain ⟨dg, hdg⟩ : ∃ dg : Int, dg = (cn + x) % 65536 := ⟨_, rfl⟩
        obtain ⟨cq, hcq⟩ : ∃ cq : Int, cq = (cn + x) / 65536 := ⟨_, rfl⟩
        have ed : (cn + x) % 65536 = dg := hdg.symm
        have eq : (cn + x) / 65536 = cq := hcq.symm
        have fin := plus_fin A B O k cn dg cq x 0 u5 wr w hc0 (by omega) (by omega) (by omega) (by omega) hx.out (by rw [Bg.getD_out B k (by omega)]; rfl) hH.out
        have dg0 : 0 ≤ dg := by omega
        have dg1 : dg ≤ 65535 := by omega
        have cq0 : 0 ≤ cq := by omega
        have cq1 : cq ≤ 1 := by omega
        have hown := hH.out.1
        have hsz : w.heap.size ≤ wr.heap.size := hH.out.2.2.2.2.size
        have FIN : Hid _ := fin
        have OWN : Hid (wr.ownsRow w.heap.size 3 1 u5 k (vals O)) := hown
        have DQ : Hid (dg = (cn + x) % 65536 ∧ cq = (cn + x) / 65536) := ⟨hdg, hcq⟩
        clear fin hdg hcq hown
        go_wp2_with (at_builtin; refine wpList_append_own _ rfl _ _ 50 rfl w.heap.size 3 i0 (.int .i64 0) 1 8 Try.underlying50 hi hz0 hz1 hz2 rfl (by decide) _ _ _ rfl (OWN.out.alloc _) ⟨wr.heap.size, 0, none⟩ 1 1 [.int .i64 dg] rfl rfl (cell_new wr dg) (one_new dg) (by unfold maxLen; omega) (by omega) (by simp; omega) ?_)
        intro v' w1 hown' hgrow _
        have R := FIN.out v' w1 hown' hgrow
        clear hown' hgrow
        have RR : Hid _ := R
        clear R
        go_wp2
        go_roundw
        case rel => exact ⟨k + 1, cq, O ++ [dg.toNat], by go_num, congrArg (Value.int .i64) eq, cq0, cq1, by omega, by have := DQ.out; omega, RR.out⟩
        case measure => simp [intOf]; omega
    · by_cases h2 : (k : Int) < B.length
      · obtain ⟨c, y, f1, f2, f3, hy, y0, y1⟩ := (rb'.out.below hH.out.2.2.2.2 (Nat.le_refl _)).at db'.out k (by omega)
        have hiy : ∀ w, Sem.run Try.prog (Instr.indexAt 50 (.slice bo B.length cb) (.int .i64 (k : Int))) w = .ok (.pointer (some ⟨c, k, none⟩)) w := idx_run B.length cb k k f1.out rfl (by omega)
        obtain ⟨dg, hdg⟩ : ∃ dg : Int, dg = (cn + y) % 65536 := ⟨_, rfl⟩
        obtain ⟨cq, hcq⟩ : ∃ cq : Int, cq = (cn + y) / 65536 := ⟨_, rfl⟩
        have ed : (cn + y) % 65536 = dg := hdg.symm
        have eq : (cn + y) / 65536 = cq := hcq.symm
        have fin := plus_fin A B O k cn dg cq 0 y u5 wr w hc0 (by omega) (by omega) (by omega) (by omega) (by rw [Bg.getD_out A k (by omega)]; rfl) hy.out hH.out
        have dg0 : 0 ≤ dg := by omega
        have dg1 : dg ≤ 65535 := by omega
        have cq0 : 0 ≤ cq := by omega
        have cq1 : cq ≤ 1 := by omega
        have hown := hH.out.1
        have hsz : w.heap.size ≤ wr.heap.size := hH.out.2.2.2.2.size
        have FIN : Hid _ := fin
        have OWN : Hid (wr.ownsRow w.heap.size 3 1 u5 k (vals O)) := hown
        have DQ : Hid (dg = (cn + y) % 65536 ∧ cq = (cn + y) / 65536) := ⟨hdg, hcq⟩
        clear fin hdg hcq hown
        go_wp2_with (at_builtin; refine wpList_append_own _ rfl _ _ 50 rfl w.heap.size 3 i0 (.int .i64 0) 1 8 Try.underlying50 hi hz0 hz1 hz2 rfl (by decide) _ _ _ rfl (OWN.out.alloc _) ⟨wr.heap.size, 0, none⟩ 1 1 [.int .i64 dg] rfl rfl (cell_new wr dg) (one_new dg) (by unfold maxLen; omega) (by omega) (by simp; omega) ?_)
        intro v' w1 hown' hgrow _
        have R := FIN.out v' w1 hown' hgrow
        clear hown' hgrow
        have RR : Hid _ := R
        clear R
        go_wp2
        go_roundw
        case rel => exact ⟨k + 1, cq, O ++ [dg.toNat], by go_num, congrArg (Value.int .i64) eq, cq0, cq1, by omega, by have := DQ.out; omega, RR.out⟩
        case measure => simp [intOf]; omega
      · by_cases h3 : 0 < cn
        · obtain ⟨dg, hdg⟩ : ∃ dg : Int, dg = (cn) % 65536 := ⟨_, rfl⟩
          obtain ⟨cq, hcq⟩ : ∃ cq : Int, cq = (cn) / 65536 := ⟨_, rfl⟩
          have ed : (cn) % 65536 = dg := hdg.symm
          have eq : (cn) / 65536 = cq := hcq.symm
          have fin := plus_fin A B O k cn dg cq 0 0 u5 wr w hc0 (by omega) (by omega) (by omega) (by omega) (by rw [Bg.getD_out A k (by omega)]; rfl) (by rw [Bg.getD_out B k (by omega)]; rfl) hH.out
          have dg0 : 0 ≤ dg := by omega
          have dg1 : dg ≤ 65535 := by omega
          have cq0 : 0 ≤ cq := by omega
          have cq1 : cq ≤ 1 := by omega
          have hown := hH.out.1
          have hsz : w.heap.size ≤ wr.heap.size := hH.out.2.2.2.2.size
          have FIN : Hid _ := fin
          have OWN : Hid (wr.ownsRow w.heap.size 3 1 u5 k (vals O)) := hown
          have DQ : Hid (dg = (cn) % 65536 ∧ cq = (cn) / 65536) := ⟨hdg, hcq⟩
          clear fin hdg hcq hown
          go_wp2_with (at_builtin; refine wpList_append_own _ rfl _ _ 50 rfl w.heap.size 3 i0 (.int .i64 0) 1 8 Try.underlying50 hi hz0 hz1 hz2 rfl (by decide) _ _ _ rfl (OWN.out.alloc _) ⟨wr.heap.size, 0, none⟩ 1 1 [.int .i64 dg] rfl rfl (cell_new wr dg) (one_new dg) (by unfold maxLen; omega) (by omega) (by simp; omega) ?_)
          intro v' w1 hown' hgrow _
          have R := FIN.out v' w1 hown' hgrow
          clear hown' hgrow
          have RR : Hid _ := R
          clear R
          go_wp2
          go_roundw
          case rel => exact ⟨k + 1, cq, O ++ [dg.toNat], by go_num, congrArg (Value.int .i64) eq, cq0, cq1, by omega, by have := DQ.out; omega, RR.out⟩
          case measure => simp [intOf]; omega
        · obtain ⟨o, cc, rfl, o1, o2, o3⟩ := own_rd (by rw [hH.out.2.1]; exact hH.out.1 : wr.ownsRow w.heap.size 3 1 u5 O.length (vals O))
          have hk' : Hid (O.length = k) := hH.out.2.1
          go_wp2_with fail
          refine (trim_any o O cc _ (by have := hk'.out; omega) (by omega) o2 hH.out.2.2.1).mono ?_
          rintro e w2 ⟨m, rfl, t1, t2, t3, rfl⟩
          have TT : Hid (m ≤ O.length ∧ Bg.can (O.take m) ∧ Bg.val (O.take m) = Bg.val O) := ⟨t1, t2, t3⟩
          have RD : Hid (Rd w2 o O ∧ O.length ≤ cc) := ⟨o2, o1⟩
          have NN : Hid (New w.heap.size o cc) := o3
          clear t1 t2 t3 o1 o2 o3
          go_wp2
          go_ret
          obtain ⟨t1, t2, t3⟩ := TT.out
          have hl : (O.take m).length = m := by rw [List.length_take]; omega
          refine ⟨o, O.take m, cc, ret_slice hl.symm, by rw [hl]; have := RD.out.2; omega, RD.out.1.take m, t2, ?_, NN.out, hH.out.2.2.2.2⟩
          have hs := hH.out.2.2.2.1
          rw [show cn.toNat = 0 from by omega, Nat.mul_zero, Bg.val_take_all A k (by omega), Bg.val_take_all B k (by omega)] at hs
          omega
end Go.Proofs.Ytdmaaigchfgmdaa
