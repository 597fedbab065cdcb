/- What same of the laws' package of layer 3 says of two packets that are the same. -/
import Derived.Test.YtdobghhjlfffpaaXC
import Derived.Test.YtdobghhjlfffpaaXL
import Derived.Test.YtdobghhjlfffpaaWP
import Derived.Deep.QuietTactic
namespace Go.Proofs.Ytdobghhjlfffpaa
open Go.RowKit
theorem code_hid3 {P : Program} {c1 c2 : Code} {Q : Exit → Act → World → Prop} {a : Act} {w : World} (h : ∀ R, Hid (R = c2) → Code.wp P (c1.seq R) Q a w) : Code.wp P (c1.seq c2) Q a w := h c2 rfl
theorem Es.drewN {N : Nat} {w : World} {v : Value} {xs : List Xt} (h : Es N w v xs) (n : Nat) : Es N (w.drewN n) v xs := h
theorem Sv.drewN {N : Nat} {w : World} {v : Value} {bs : List Int} (h : Sv N w v bs) (n : Nat) : Sv N (w.drewN n) v bs := h
theorem below_drewN3 {B : Nat} {w v : World} (h : Below B w v) (n : Nat) : Below B w (v.drewN n) := by
  induction n with
  | zero => exact h
  | succ n ih => exact ih.drew
def prsx (xs : List Xt) : List (Int × List Int) := xs.map (fun x => (x.ty, x.dat))
theorem prsx_at {xs ys : List Xt} (h : prsx xs = prsx ys) : xs.length = ys.length ∧ ∀ i (hi : i < xs.length) (hj : i < ys.length), xs[i].ty = ys[i].ty ∧ xs[i].dat = ys[i].dat := by
  have hl : xs.length = ys.length := by have := congrArg List.length h; unfold prsx at this; simpa using this
  refine ⟨hl, fun i hi hj => ?_⟩
  have e : (prsx xs)[i]? = (prsx ys)[i]? := by rw [h]
  unfold prsx at e
  rw [List.getElem?_map, List.getElem?_map, List.getElem?_eq_getElem hi, List.getElem?_eq_getElem hj] at e
  simp only [Option.map_some, Option.some.injEq, Prod.mk.injEq] at e
  exact e
set_option maxRecDepth 20000 in
set_option maxHeartbeats 4000000 in
theorem lsame_any (N : Nat) (h : Hd) (ev ev2 : Value) (xs ys : List Xt) (key : Int) (nak : Bool) (mv mv2 : Value) (mac : List Int) (w : World) (he : Es N w ev xs) (he2 : Es N w ev2 ys) (hm : Sv N w mv mac) (hm2 : Sv N w mv2 mac) (hp : prsx xs = prsx ys) (hN : N ≤ w.heap.size) (hl : xs.length ≤ 65536) :
    Calls Try.prog 14 #[pkV h ev key nak mv, pkV h ev2 key nak mv2] w fun e w' => e = .returned (.bool true) ∧ Below w.heap.size w w' := by
  have H : Hid (Es N w ev xs ∧ Es N w ev2 ys) := ⟨he, he2⟩
  have HM : Hid (Sv N w mv mac ∧ Sv N w mv2 mac) := ⟨hm, hm2⟩
  obtain ⟨hpl, hpa⟩ := prsx_at hp
  obtain ⟨ea, ec, rfl, -⟩ := he
  obtain ⟨ea2, ec2, rfl, -⟩ := he2
  obtain ⟨ma, mc, rfl, -⟩ := hm
  obtain ⟨ma2, mc2, rfl, -⟩ := hm2
  rw [← hpl] at H ⊢
  obtain ⟨en, hen⟩ : ∃ n, n = xs.length := ⟨_, rfl⟩
  obtain ⟨mn, hmn⟩ : ∃ n, n = mac.length := ⟨_, rfl⟩
  rw [← hen] at H ⊢
  rw [← hmn] at HM ⊢
  have HE : Hid (en = xs.length ∧ xs.length = ys.length) := ⟨hen, hpl⟩
  have HPA : Hid _ := hpa
  obtain ⟨EN, hEN⟩ : ∃ x : Int, (en : Int) = x := ⟨_, rfl⟩
  have HEN : Hid ((en : Int) = EN) := hEN
  have l1 : EN ≤ 65536 := by omega
  have l0 : 0 ≤ EN := by omega
  clear hl hp hpl hpa hen hmn
  unfold pkV
  go_enter Try.func14, Try.ntmps14
  refine code_hid3 fun R1 hR1 => ?_
  go_wp2_with fail
  obtain ⟨W, hW⟩ : ∃ W, W = (w.alloc (.cells #[.int .i64 h.leap, .int .i64 h.ver, .int .i64 h.mode, .int .i64 h.str, .int .i64 h.poll, .int .i64 h.prec, .int .i64 h.del, .int .i64 h.dis, .int .u32 h.rid, .int .u64 h.t0, .int .u64 h.t1, .int .u64 h.t2, .int .u64 h.t3, .slice ea en ec, .int .i64 key, .bool nak, .slice ma mn mc] 29)).alloc (.cells #[.int .i64 h.leap, .int .i64 h.ver, .int .i64 h.mode, .int .i64 h.str, .int .i64 h.poll, .int .i64 h.prec, .int .i64 h.del, .int .i64 h.dis, .int .u32 h.rid, .int .u64 h.t0, .int .u64 h.t1, .int .u64 h.t2, .int .u64 h.t3, .slice ea2 en ec2, .int .i64 key, .bool nak, .slice ma2 mn mc2] 29) := ⟨_, rfl⟩
  have K0 : Hid (Pb w.heap.size W #[.int .i64 h.leap, .int .i64 h.ver, .int .i64 h.mode, .int .i64 h.str, .int .i64 h.poll, .int .i64 h.prec, .int .i64 h.del, .int .i64 h.dis, .int .u32 h.rid, .int .u64 h.t0, .int .u64 h.t1, .int .u64 h.t2, .int .u64 h.t3, .slice ea en ec, .int .i64 key, .bool nak, .slice ma mn mc] ∧ Pb (w.heap.size + 1) W #[.int .i64 h.leap, .int .i64 h.ver, .int .i64 h.mode, .int .i64 h.str, .int .i64 h.poll, .int .i64 h.prec, .int .i64 h.del, .int .i64 h.dis, .int .u32 h.rid, .int .u64 h.t0, .int .u64 h.t1, .int .u64 h.t2, .int .u64 h.t3, .slice ea2 en ec2, .int .i64 key, .bool nak, .slice ma2 mn mc2] ∧ Below w.heap.size w W) := by
    rw [hW]
    refine ⟨(Pb.new w _).below ((Below.refl _ _).alloc (Nat.le_refl _) _) (by simp), ?_, ((Below.refl _ _).alloc (Nat.le_refl _) _).alloc (by simp) _⟩
    have := Pb.new (w.alloc (.cells #[.int .i64 h.leap, .int .i64 h.ver, .int .i64 h.mode, .int .i64 h.str, .int .i64 h.poll, .int .i64 h.prec, .int .i64 h.del, .int .i64 h.dis, .int .u32 h.rid, .int .u64 h.t0, .int .u64 h.t1, .int .u64 h.t2, .int .u64 h.t3, .slice ea en ec, .int .i64 key, .bool nak, .slice ma mn mc] 29)) #[.int .i64 h.leap, .int .i64 h.ver, .int .i64 h.mode, .int .i64 h.str, .int .i64 h.poll, .int .i64 h.prec, .int .i64 h.del, .int .i64 h.dis, .int .u32 h.rid, .int .u64 h.t0, .int .u64 h.t1, .int .u64 h.t2, .int .u64 h.t3, .slice ea2 en ec2, .int .i64 key, .bool nak, .slice ma2 mn mc2]
    simpa using this
  rw [← hW, hR1.out]
  clear hW hR1
  have HBy : Hid (∀ v, Below w.heap.size w v → Calls Try.prog 13 #[.slice ma mn mc, .slice ma2 mn mc2] v fun e w' => e = .returned (.bool true) ∧ w' = v) := fun v hb => lbytes_eq N N _ _ mac v (HM.out.1.below hb hN) (HM.out.2.below hb hN)
  obtain ⟨c0, c1, c2, c3, c4, c5, c6, c7, c8, c9, c10, c11, c12, c13, c14, c15, c16⟩ := K0.out.1.ck.c17
  obtain ⟨d0, d1, d2, d3, d4, d5, d6, d7, d8, d9, d10, d11, d12, d13, d14, d15, d16⟩ := K0.out.2.1.ck.c17
  go_wp2_with (go_at_call 13; refine (HBy.out _ K0.out.2.2).mono ?_; rintro e' w9 ⟨rfl, hw9⟩; rw [hw9]; clear hw9)
  clear c0 c1 c2 c3 c4 c5 c6 c7 c8 c9 c10 c11 c12 c13 c14 c15 c16
  clear d0 d1 d2 d3 d4 d5 d6 d7 d8 d9 d10 d11 d12 d13 d14 d15 d16
  go_loopw [5] (fun i wr => ∃ (k : Nat) (KI : Int), i = .int .i64 KI ∧ 0 ≤ KI ∧ KI ≤ EN ∧ Hid (KI = (k : Int) ∧ Pb w.heap.size wr #[.int .i64 h.leap, .int .i64 h.ver, .int .i64 h.mode, .int .i64 h.str, .int .i64 h.poll, .int .i64 h.prec, .int .i64 h.del, .int .i64 h.dis, .int .u32 h.rid, .int .u64 h.t0, .int .u64 h.t1, .int .u64 h.t2, .int .u64 h.t3, .slice ea en ec, .int .i64 key, .bool nak, .slice ma mn mc] ∧ Pb (w.heap.size + 1) wr #[.int .i64 h.leap, .int .i64 h.ver, .int .i64 h.mode, .int .i64 h.str, .int .i64 h.poll, .int .i64 h.prec, .int .i64 h.del, .int .i64 h.dis, .int .u32 h.rid, .int .u64 h.t0, .int .u64 h.t1, .int .u64 h.t2, .int .u64 h.t3, .slice ea2 en ec2, .int .i64 key, .bool nak, .slice ma2 mn mc2] ∧ Below w.heap.size w wr)) (fun i _ => (EN - intOf i).toNat)
  case atStart => exact ⟨0, 0, rfl, by omega, l0, rfl, K0.out⟩
  case round =>
    obtain ⟨k, KI, rfl, k0, k1, hK⟩ := hrel
    clear K0
    have c13 : wr.cell? ⟨w.heap.size, 13, none⟩ = some (.slice ea en ec) := by obtain ⟨_, _, _, _, _, _, _, _, _, _, _, _, _, q, _⟩ := hK.out.2.1.ck.c17; exact q
    have d13 : wr.cell? ⟨w.heap.size + 1, 13, none⟩ = some (.slice ea2 en ec2) := by obtain ⟨_, _, _, _, _, _, _, _, _, _, _, _, _, q, _⟩ := hK.out.2.2.1.ck.c17; exact q
    by_cases hlt : KI < EN
    · have hkx : k < xs.length := by have := HE.out; have := HEN.out; have := hK.out.1; omega
      have hky : k < ys.length := by have := HE.out; omega
      obtain ⟨ad, g1, g2, g3, g4, g5⟩ := (H.out.1.below hK.out.2.2.2 hN).at k hkx
      obtain ⟨ad2, f1, f2, f3, f4, f5⟩ := (H.out.2.below hK.out.2.2.2 hN).at k hky
      have hix : ∀ w, Sem.run Try.prog (Instr.indexAt 26 (.slice ea en ec) (.int .i64 KI)) w = .ok (.pointer (some (ad.add (k * 2)))) w := by rw [hK.out.1]; exact xidx_run en ec k g1.out (by have := HEN.out; have := hK.out.1; omega)
      have hix2 : ∀ w, Sem.run Try.prog (Instr.indexAt 26 (.slice ea2 en ec2) (.int .i64 KI)) w = .ok (.pointer (some (ad2.add (k * 2)))) w := by rw [hK.out.1]; exact xidx_run en ec2 k f1.out (by have := HEN.out; have := hK.out.1; omega)
      obtain ⟨A, hA0⟩ : ∃ A, A = ad.add (k * 2) := ⟨_, rfl⟩
      obtain ⟨A2, hA2⟩ : ∃ A, A = ad2.add (k * 2) := ⟨_, rfl⟩
      obtain ⟨TY, hTY⟩ : ∃ t, t = xs[k].ty := ⟨_, rfl⟩
      obtain ⟨DA, hDA⟩ : ∃ t, t = xs[k].dat := ⟨_, rfl⟩
      obtain ⟨dv, hdv⟩ : ∃ d, d = xs[k].dv := ⟨_, rfl⟩
      obtain ⟨dv2, hdv2⟩ : ∃ d, d = ys[k].dv := ⟨_, rfl⟩
      rw [← hA2, ← (HPA.out k hkx hky).1, ← hTY] at f2
      rw [← hA2, ← hdv2] at f3
      rw [← (HPA.out k hkx hky).2, ← hDA, ← hdv2] at f4
      rw [← hA0, ← hTY] at g2
      rw [← hA0, ← hdv] at g3
      rw [← hDA, ← hdv] at g4
      rw [← hA0] at hix
      rw [← hA2] at hix2
      have HSD : Hid (Sv N wr dv DA ∧ Sv N wr dv2 DA) := ⟨g4, f4⟩
      obtain ⟨da, dc, hd, -⟩ := g4
      obtain ⟨da2, dc2, hd2, -⟩ := f4
      obtain ⟨dn, hdn⟩ : ∃ n, n = DA.length := ⟨_, rfl⟩
      rw [← hdn] at hd hd2
      subst hd hd2
      have g3' : wr.cell? { block := A.block, off := A.off + 1 } = some (.slice da dn dc) := by simpa [Addr.add] using g3
      have f3' : wr.cell? { block := A2.block, off := A2.off + 1 } = some (.slice da2 dn dc2) := by simpa [Addr.add] using f3
      have HBd : Hid (∀ n, Calls Try.prog 13 #[.slice da dn dc, .slice da2 dn dc2] (wr.drewN n) fun e w' => e = .returned (.bool true) ∧ w' = wr.drewN n) := fun n => lbytes_eq N N _ _ DA _ (HSD.out.1.drewN n) (HSD.out.2.drewN n)
      clear hA0 hA2 hTY hDA hdv hdv2 hdn g1 g3 g5 f1 f3 f5
      go_wp2_with fail
      go_quiet ((go_at_call 13; exact Calls.quiet_of_same (HBd.out _)))
      go_wp2_with fail
      exact ⟨⟨k + 1, KI + 1, rfl, by omega, by omega, by have := hK.out.1; omega, hK.out.2.1.drewN nq, hK.out.2.2.1.drewN nq, below_drewN3 hK.out.2.2.2 nq⟩, by simp [intOf]; omega⟩
    · go_wp2_with fail
      go_ret
      exact ⟨rfl, hK.out.2.2.2⟩
end Go.Proofs.Ytdobghhjlfffpaa
