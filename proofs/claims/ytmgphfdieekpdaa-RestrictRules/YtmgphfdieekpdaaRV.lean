/- The examples. -/
import Derived.Test.YtmgphfdieekpdaaRR
import Derived.Test.YtmgphfdieekpdaaRC
import Derived.Test.YtmgphfdieekpdaaRK
namespace Go.Proofs.Ytmgphfdieekpdaa
open Go Go.RowKit
theorem hd_nil {a cost mn now turns : Int} {lim kod : Bool} {xs' : List Sn} {v : Int} (h : HdR [] a cost mn now turns lim kod xs' v) : xs' = [nwS a cost now turns] ∧ v = 0 := by
  rcases h with ⟨_, h1, h2⟩ | ⟨i, h, _⟩
  · exact ⟨h1, h2⟩
  · simp at h
theorem hd_one {s : Sn} {a cost mn now turns : Int} {lim kod : Bool} {xs' : List Sn} {v : Int} (h : HdR [s] a cost mn now turns lim kod xs' v) (ha : s.addr = a) : xs' = [haS s cost mn now turns lim kod] ∧ v = haV s cost mn now lim kod := by
  rcases h with ⟨h0, _, _⟩ | ⟨i, h, _, h1, h2⟩
  · exact absurd ha (h0 s (by simp))
  · have hi : i = 0 := by simp at h; omega
    subst hi
    exact ⟨h1, h2⟩
theorem lim32 : true = decide (bits BinOp.and IntKind.i64 32 32 ≠ 0) := by decide +kernel
theorem kod32 : false = decide (bits BinOp.and IntKind.i64 32 64 ≠ 0) := by decide +kernel
theorem kc_rate : kcF { data := #[82, 65, 84, 69] } = 1380013125 := by
  have hA : kcA { data := #[82, 65, 84, 69] } (ByteArray.size { data := #[82, 65, 84, 69] }) := by
    intro j hj
    have h : j = 0 ∨ j = 1 ∨ j = 2 ∨ j = 3 := by
      have : ByteArray.size { data := #[82, 65, 84, 69] } = 4 := by decide
      omega
    rcases h with rfl | rfl | rfl | rfl <;> decide
  unfold kcF
  rw [if_pos ⟨by decide, hA⟩]
  decide +kernel
def exR : List Ru := [⟨0, 0, 1⟩, ⟨167772160, 8, 2⟩, ⟨167772160, 8, 4⟩]
theorem mt_ex1 : mtF 167772161 exR = 6 := by decide +kernel
theorem mt_ex2 : mtF 184549376 exR = 1 := by decide +kernel
theorem exR_rk (W : World) : Rk (W.heap.size + 1) (W.alloc (Obj.cells #[.int .u32 0, .int .i64 0, .int .i64 1, .int .u32 167772160, .int .i64 8, .int .i64 2, .int .u32 167772160, .int .i64 8, .int .i64 4] 26)) 3 (.slice (some ⟨W.heap.size, 0, none⟩) 3 3) (exR.map ruL) := by
  refine ⟨some ⟨W.heap.size, 0, none⟩, 3, rfl, by simp [exR], fun i hi => ⟨_, rfl, by simp, fun j u hu => ?_⟩⟩
  have hi' : i = 0 ∨ i = 1 ∨ i = 2 := by simp [exR] at hi; omega
  have hj : j < 3 := by
    rcases Nat.lt_or_ge j 3 with h | h
    · exact h
    · exfalso
      have : ((exR.map ruL).getD i []).length = 3 := by rcases hi' with rfl | rfl | rfl <;> rfl
      rw [List.getElem?_eq_none (by omega)] at hu; cases hu
  rw [add_own, (Bk.new W _ _).cell]
  have hj' : j = 0 ∨ j = 1 ∨ j = 2 := by omega
  rcases hi' with rfl | rfl | rfl <;> rcases hj' with rfl | rfl | rfl <;> exact hu
theorem Mm.bel {w w' : World} {B g : Nat} {sv : Value} {cost mn now turns : Int} {xs : List Sn} (h : Mm w B g sv cost mn now turns xs) (hB : B ≤ w.heap.size) (hf : Fm w w' g sv) : Below B w w' :=
  hf.below hB h.low (fun k e => by
    rcases h.row.row.2 with ⟨h1, _⟩ | ⟨q, _, _, h1, h2, _⟩
    · rw [h1] at e; cases e
    · rw [h1] at e; injection e with e; subst e; exact h2)
theorem mx1 : mxI (-9223372036854775808) 0 = 0 := by unfold mxI; rw [if_pos (by omega)]
theorem mx2 : mxI 0 1 = 1 := by unfold mxI; rw [if_pos (by omega)]
theorem mx3 : mxI 1 3 = 3 := by unfold mxI; rw [if_pos (by omega)]
theorem heard1 (g : Nat) (w : World) (hM : Mm w g g (.slice none 0 0) 2 2 (-9223372036854775808) 0 []) (hB : g ≤ w.heap.size) : Calls Try.prog 19 #[.pointer (some ⟨g, 0, none⟩), .int .u32 7, .int .i64 0, .int .i64 32] w fun e w' => e = .returned (.int .i64 0) ∧ ∃ sv, Mm w' g g sv 2 2 0 1 [⟨7, 0, 0, 1, 2, 1⟩] ∧ Below g w w' := by
  have h := heard_few g g (.slice none 0 0) [] 2 2 (-9223372036854775808) 0 7 0 32 true false w hM hB (.inl (by simp)) (by omega) (by omega) (by omega) (by omega) (by omega) (by omega) (by omega) (by omega) (by omega) (fun x hx => by cases hx) lim32 kod32
  refine h.mono ?_
  rintro e w2 ⟨sv2, xs2, v2, rfl, hr2, hm2, hf2, ho2⟩
  obtain ⟨rfl, rfl⟩ := hd_nil hr2
  rw [mx1] at hm2
  exact ⟨rfl, sv2, hm2, hM.bel hB hf2⟩
theorem heard2 (g : Nat) (sv : Value) (w : World) (hM : Mm w g g sv 2 2 0 1 [⟨7, 0, 0, 1, 2, 1⟩]) (hB : g ≤ w.heap.size) : Calls Try.prog 19 #[.pointer (some ⟨g, 0, none⟩), .int .u32 7, .int .i64 1, .int .i64 32] w fun e w' => e = .returned (.int .i64 1) ∧ ∃ sv, Mm w' g g sv 2 2 1 2 [⟨7, 0, 1, 2, 1, 2⟩] ∧ Below g w w' := by
  have h := heard_few g g sv [⟨7, 0, 0, 1, 2, 1⟩] 2 2 0 1 7 1 32 true false w hM hB (.inl (by simp)) (by omega) (by omega) (by omega) (by omega) (by omega) (by omega) (by omega) (by omega) (by omega) (fun x hx => by
    rw [List.mem_singleton] at hx; subst hx; constructor <;> simp) lim32 kod32
  refine h.mono ?_
  rintro e w2 ⟨sv2, xs2, v2, rfl, hr2, hm2, hf2, ho2⟩
  obtain ⟨rfl, rfl⟩ := hd_one hr2 rfl
  rw [mx2] at hm2 ⊢
  exact ⟨rfl, sv2, hm2, hM.bel hB hf2⟩
theorem heard3 (g : Nat) (sv : Value) (w : World) (hM : Mm w g g sv 2 2 1 2 [⟨7, 0, 1, 2, 1, 2⟩]) (hB : g ≤ w.heap.size) : Calls Try.prog 19 #[.pointer (some ⟨g, 0, none⟩), .int .u32 7, .int .i64 3, .int .i64 32] w fun e w' => e = .returned (.int .i64 0) ∧ ∃ sv, Mm w' g g sv 2 2 3 3 [⟨7, 0, 3, 3, 2, 3⟩] ∧ Below g w w' := by
  have h := heard_few g g sv [⟨7, 0, 1, 2, 1, 2⟩] 2 2 1 2 7 3 32 true false w hM hB (.inl (by simp)) (by omega) (by omega) (by omega) (by omega) (by omega) (by omega) (by omega) (by omega) (by omega) (fun x hx => by
    rw [List.mem_singleton] at hx; subst hx; constructor <;> simp) lim32 kod32
  refine h.mono ?_
  rintro e w2 ⟨sv2, xs2, v2, rfl, hr2, hm2, hf2, ho2⟩
  obtain ⟨rfl, rfl⟩ := hd_one hr2 rfl
  rw [mx3] at hm2 ⊢
  exact ⟨rfl, sv2, hm2, hM.bel hB hf2⟩
theorem find1 (g : Nat) (sv : Value) (w : World) (hM : Mm w g g sv 2 2 3 3 [⟨7, 0, 3, 3, 2, 3⟩]) : Calls Try.prog 22 #[.pointer (some ⟨g, 0, none⟩), .int .u32 7] w fun e w' => e = .returned (.tuple #[.agg #[.int .u32 7, .int .i64 0, .int .i64 3, .int .i64 3, .int .i64 2], .bool true]) ∧ Below w.heap.size w w' := by
  refine (find_any g g sv _ 2 2 3 3 7 w hM (by simp)).mono ?_
  rintro e w' ⟨s, b, rfl, h, hb⟩
  rcases h with ⟨rfl, h1, _⟩ | ⟨_, _, h3⟩
  · rw [List.mem_singleton] at h1
    subst h1
    exact ⟨rfl, hb⟩
  · exact absurd rfl (h3 _ (List.mem_singleton.2 rfl))
set_option maxHeartbeats 1000000 in
theorem shown_any (w : World) : Calls Try.prog 11 #[] w fun e w' => e = .returned (.bool true) ∧ Below w.heap.size w w' := by
  have HN : Hid (Calls Try.prog 17 #[.int .i64 1, .int .i64 2] w fun e w' => e = .returned (.tuple #[.pointer (some ⟨w.heap.size, 0, none⟩), .int .i64 0]) ∧ w' = w.alloc (.cells #[.int .i64 2, .int .i64 2, .int .i64 (-9223372036854775808), .int .i64 0, .slice none 0 0] 66)) := new_ok 1 2 w (by decide) (by decide) (by decide) (by decide)
  obtain ⟨g, hg⟩ : ∃ g, g = w.heap.size := ⟨_, rfl⟩
  have HG : Hid (g = w.heap.size) := hg
  go_enter Try.func11, Try.ntmps11
  go_wp2_with fail
  refine HN.out.mono ?_
  rintro e w1 ⟨rfl, hw1⟩
  have HM1 : Hid (Mm w1 w.heap.size w.heap.size (.slice none 0 0) 2 2 (-9223372036854775808) 0 []) := by rw [hw1]; exact Mm.fresh w 2 2
  have HB1 : Hid (Below w.heap.size w w1) := by rw [hw1]; exact (Below.refl _ _).alloc (Nat.le_refl _) _
  rw [← hg] at HM1 HB1 ⊢
  clear hw1 HN hg
  go_wp2_with fail
  refine (heard1 g w1 HM1.out (by rw [HG.out]; exact HB1.out.size)).mono ?_
  rintro e w2 ⟨rfl, sv2, hm2, hb2⟩
  have HM2 : Hid (Mm w2 g g sv2 2 2 0 1 [⟨7, 0, 0, 1, 2, 1⟩]) := hm2
  have HB2 : Hid (Below g w w2) := HB1.out.trans hb2
  clear hm2 hb2 HM1 HB1
  go_wp2_with fail
  refine (heard2 g sv2 w2 HM2.out (by rw [HG.out]; exact HB2.out.size)).mono ?_
  rintro e w3 ⟨rfl, sv3, hm3, hb3⟩
  have HM3 : Hid (Mm w3 g g sv3 2 2 1 2 [⟨7, 0, 1, 2, 1, 2⟩]) := hm3
  have HB3 : Hid (Below g w w3) := HB2.out.trans hb3
  clear hm3 hb3 HM2 HB2
  go_wp2_with fail
  refine (heard3 g sv3 w3 HM3.out (by rw [HG.out]; exact HB3.out.size)).mono ?_
  rintro e w4 ⟨rfl, sv4, hm4, hb4⟩
  have HM4 : Hid (Mm w4 g g sv4 2 2 3 3 [⟨7, 0, 3, 3, 2, 3⟩]) := hm4
  have HB4 : Hid (Below g w w4) := HB3.out.trans hb4
  clear hm4 hb4 HM3 HB3
  go_wp2_with fail
  refine (find1 g sv4 w4 HM4.out).mono ?_
  rintro e w5 ⟨rfl, hb5⟩
  have HB5 : Hid (Below g w w5) := HB4.out.trans (hb5.mono (by rw [HG.out]; exact HB4.out.size))
  clear hb5 HM4 HB4
  go_wp2_with fail
  generalize hW6 : World.alloc w5 _ = W6
  have hz6 : w5.heap.size + 1 = W6.heap.size := by rw [← hW6]; simp
  have HB6 : Hid (Below g w W6) := by rw [← hW6]; exact HB5.out.alloc (by rw [HG.out]; exact HB5.out.size) _
  have i0 : W6.cell? ⟨w5.heap.size, 0, none⟩ = some (.int .u32 7) := by rw [← hW6]; simp
  have i1 : W6.cell? ⟨w5.heap.size, 1, none⟩ = some (.int .i64 0) := by rw [← hW6]; simp
  have i2 : W6.cell? ⟨w5.heap.size, 2, none⟩ = some (.int .i64 3) := by rw [← hW6]; simp
  have i3 : W6.cell? ⟨w5.heap.size, 3, none⟩ = some (.int .i64 3) := by rw [← hW6]; simp
  have i4 : W6.cell? ⟨w5.heap.size, 4, none⟩ = some (.int .i64 2) := by rw [← hW6]; simp
  rw [hz6]
  generalize hW7 : World.alloc W6 _ = W7
  have HB7 : Hid (Below g w W7) := by rw [← hW7]; exact HB6.out.alloc (by rw [HG.out]; exact HB6.out.size) _
  have HR7 : Hid (Rk (W6.heap.size + 1) W7 3 (.slice (some ⟨W6.heap.size, 0, none⟩) 3 3) (exR.map ruL) ∧ W7.heap.size = W6.heap.size + 1) := by rw [← hW7]; exact ⟨exR_rk W6, by simp⟩
  have HT : Hid (∀ u x, Below W7.heap.size W7 u → 0 ≤ x → x < 4294967296 → Calls Try.prog 9 #[.slice (some ⟨W6.heap.size, 0, none⟩) 3 3, .int .u32 x] u fun e w' => e = .returned (.int .i64 (mtF x exR)) ∧ Below u.heap.size u w') := fun u x hu h0 h1 =>
    match_any (W6.heap.size + 1) _ exR x u (by have := hu.size; have := HR7.out.2; omega) (HR7.out.1.below hu (by rw [HR7.out.2]; exact Nat.le_refl _)) (by simp [exR]) (fun a ha => by simp [exR] at ha; rcases ha with rfl | rfl | rfl <;> simp) h0 h1
  clear hW6 hW7 hz6
  refine (HT.out _ 167772161 (Below.refl _ _) (by omega) (by omega)).mono ?_
  rintro e w8 ⟨rfl, hb8⟩
  rw [mt_ex1]
  have HB8 : Hid (Below W7.heap.size W7 w8) := hb8
  clear hb8
  go_wp2_with fail
  refine (HT.out _ 184549376 HB8.out (by omega) (by omega)).mono ?_
  rintro e w9 ⟨rfl, hb9⟩
  rw [mt_ex2]
  have HB9 : Hid (Below W7.heap.size W7 w9) := HB8.out.trans (hb9.mono HB8.out.size)
  clear hb9
  go_wp2_with fail
  refine (kiss_any _ w9 (by decide)).mono ?_
  rintro e w10 ⟨rfl, hw10⟩
  rw [hw10, kc_rate]
  clear hw10
  go_wp2_with fail
  go_ret
  refine ⟨rfl, ?_⟩
  rw [← HG.out]
  exact HB7.out.trans (HB9.out.mono (by rw [HG.out]; exact HB7.out.size))
end Go.Proofs.Ytmgphfdieekpdaa
