/- What PrintAddr of package conf, and digits and PrintAddr of the reference, return. -/
import Derived.Test.YtchhcipoicpglaaDoorDAa
import Derived.Test.YtchhcipoicpglaaDoorDAq
import Derived.Deep.QuietTactic
import Derived.BigQuiet
import Derived.Laws.IdiomStrings
namespace Go.Proofs.YtchhcipoicpglaaDoor
open Go.RowKit
/-- what stands there behind so many numbers -/
def pr (a : Int) : Nat → List UInt8
  | 0 => []
  | k + 1 => pr a k ++ dd (oc a k) ++ (if k < 3 then [46] else [])
theorem pr_4 (a : Int) : pr a 4 = pa a := by simp [pr, pa]
/-- bytes in memory that the call has made -/
def Ob (w : World) (B : Nat) (v : Value) (l : List UInt8) : Prop := w.ownsRow B 5 1 v l.length (Lib.byteCells l)
theorem Ob.nil (w : World) (B : Nat) : Ob w B (.slice none 0 0) [] := World.ownsRow_nil _ _ _ _
theorem info5 : (Tryd.prog.info? 5).map (fun i => (i.zero, i.size, i.bytes)) = some (some (.int .u8 0), 1, 1) := by kernel_rfl
theorem info5_parts : ∃ i, Tryd.prog.info? 5 = some i ∧ i.zero = some (.int .u8 0) ∧ i.size = 1 ∧ i.bytes = 1 := by
  have h := info5
  cases hi : Tryd.prog.info? 5 with
  | none => rw [hi] at h; cases h
  | some i =>
    rw [hi] at h
    simp at h
    exact ⟨i, rfl, h.1, h.2.1, h.2.2⟩
theorem bc_app (a b : List UInt8) : Lib.byteCells (a ++ b) = Lib.byteCells a ++ Lib.byteCells b := by unfold Lib.byteCells; rw [List.map_append]
/-- one byte is appended -/
theorem wpList_appb {w : World} {ops : Array Oper} {rest : List Oper} {o : Oper} {a : Act} {Q : Exit → Act → World → Prop} (hgd : o.guard = none) (s x : Operand) (t : TypeId)
    (ho : o.op = .call { callee := .builtin .append, args := #[s, x], argTypes := #[t, t] }) (ht : Tryd.prog.underlying t = some (.slice 5))
    (B : Nat) (v : Value) (l : List UInt8) (hs : a.eval s = v) (g : Nat) (y : UInt8) (hx : a.eval x = .slice (some ⟨g, 0, none⟩) 1 1) (hl : l.length ≤ 10000000) (hbase : B ≤ w.heap.size) (hown : Ob w B v l) (hc : w.cell? ⟨g, 0, none⟩ = some (.int .u8 (y.toNat : Int)))
    (h : ∀ v' w', Ob w' B v' (l ++ [y]) → w.grownBy w' v.ownBlock → wpList Tryd.prog ops Q rest (a.put o.dst v') w') : wpList Tryd.prog ops Q (o :: rest) a w := by
  obtain ⟨i, hi, hz, h2, h3⟩ := info5_parts
  refine wpList_append_own w hgd s x t ho B 5 i _ 1 1 ht hi hz h2 h3 rfl (by decide) v l.length (Lib.byteCells l) hs hown ⟨g, 0, none⟩ 1 1 [.int .u8 (y.toNat : Int)] hx rfl ?_ ?_ (by unfold maxLen; omega) (by omega) hbase (fun v' w' a1 a2 _ => h v' w' ?_ a2)
  · intro j u hj
    cases j with
    | zero => simp at hj; subst hj; exact hc
    | succ j => simp at hj
  · intro u hu
    simp at hu
    subst hu
    rfl
  · show World.ownsRow _ _ _ _ _ _ _
    rw [bc_app, List.length_append]
    exact a1
/-- made bytes as a text -/
theorem Ob.conv {w : World} {B : Nat} {v : Value} {l : List UInt8} (h : Ob w B v l) (hne : l ≠ []) (t : TypeId) (ht : Tryd.prog.underlying t = some (.slice 5)) : (convert t 9 v).run Tryd.prog w = .ok (.string (tx l)) w := by
  rcases h.2 with ⟨_, h2⟩ | ⟨g, cap, cur, h1, h2, h3, h4, h5, h6, h7⟩
  · exact absurd (List.length_eq_zero_iff.1 h2) hne
  · rw [h1]
    refine run_convert_bytes_back (P := Tryd.prog) w t 9 5 ⟨g, 0, none⟩ cap l ht Tryd.underlying5 Tryd.underlying9 (fun j hj => ?_)
    have e : (⟨g, 0, none⟩ : Addr).add j = ⟨g, j, none⟩ := by unfold Addr.add; split <;> simp_all
    rw [e, cell_of_row w g j cur 5 (0, 0) h3]
    have e2 : (Lib.byteCells l)[j]? = some (.int .u8 (l[j].toNat : Int)) := by unfold Lib.byteCells; rw [List.getElem?_map, List.getElem?_eq_getElem hj]; rfl
    rw [← h7, List.getElem?_take_of_lt (by omega)] at e2
    simpa using e2
theorem itoa_dd (n : Int) (h : 0 ≤ n) : Lib.itoa n = dd n := by unfold Lib.itoa dd; rw [if_neg (by omega)]
theorem shr_24 (a : Int) : a / 16777216 % 256 = oc a 0 := rfl
set_option maxRecDepth 4000 in
set_option maxHeartbeats 1000000 in
theorem print_any (a : Int) (w : World) (h0 : 0 ≤ a) (h1 : a < 4294967296) (htab : Lib.TabBelow Tryd.prog w.heap.size w "internal/strconv.uint64pow10" .u64 Lib.pow10Tab) :
    Calls Tryd.prog 6 #[.int .u32 a] w fun e w' => e = .returned (.string (tx (pa a))) ∧ Below w.heap.size w w' := by
  have HT : Hid (Lib.TabBelow Tryd.prog w.heap.size w "internal/strconv.uint64pow10" .u64 Lib.pow10Tab) := htab
  clear htab
  go_enter Tryd.func6, Tryd.ntmps6
  go_wp2
  go_loopw [3, 4] (fun m sh wr => ∃ (v : Value) (k : Nat), v = m ∧ k ≤ 4 ∧ sh = .int .i64 (24 - 8 * (k : Int)) ∧ Hid (Ob wr w.heap.size v (pr a k) ∧ Below w.heap.size w wr ∧ (pr a k).length ≤ 4 * k)) (fun _ sh _ => (32 + intOf sh).toNat)
  case atStart => exact ⟨_, 0, rfl, by omega, rfl, Ob.nil _ _, Below.refl _ _, by simp [pr]⟩
  case round =>
    obtain ⟨v, k, rfl, hk, rfl, H⟩ := hrel
    by_cases hlt : k < 4
    · have hk4 : k = 0 ∨ k = 1 ∨ k = 2 ∨ k = 3 := by omega
      have HA : Hid (∀ i, 0 ≤ i → i ≤ 255 → ∀ (u : World), Ob u w.heap.size v (pr a k) → Below w.heap.size w u → Calls Tryd.prog 12 #[v, .int .i64 i, .int .i64 10] u fun e u' => ∃ v', e = .returned v' ∧ Ob u' w.heap.size v' (pr a k ++ dd i) ∧ Below w.heap.size w u') := fun i i0 i1 u ho hb => by
        refine (Tryd.strconv_AppendInt_10 w.heap.size (pr a k).length i (by omega) (by omega) v _ u ho hb.size (by have := H.out.2.2; omega) (HT.out.on hb)).mono ?_
        rintro e u' ⟨v', rfl, h1, h2, -⟩
        rw [itoa_dd i i0] at h1
        refine ⟨v', rfl, ?_, hb.trans h2⟩
        show World.ownsRow _ _ _ _ _ _ _
        rw [bc_app, List.length_append]
        exact h1
      rcases hk4 with rfl | rfl | rfl | rfl
      · have eO : wrap64 (bits BinOp.and IntKind.u32 (a / 16777216) 255) = oc a 0 := by
          rw [u32_and_255 _ (by omega) (by omega)]
          show wrap64 ((a / 16777216) % 256) = a / 16777216 % 256
          unfold wrap64
          omega
        have HPr : Hid (pr a 1 = pr a 0 ++ dd (oc a 0) ++ [46]) := rfl
        obtain ⟨O, hO⟩ : ∃ O, O = oc a 0 := ⟨_, rfl⟩
        have ob := oc_bd a 0
        have hd3 := (dd_ok _ ob.1 ob.2).2.2
        rw [← hO] at eO HPr ob hd3
        clear hO
        go_wp2_with fail
        rw [eO]
        refine (HA.out O ob.1 ob.2 _ H.out.1 H.out.2.1).mono ?_
        rintro e u' ⟨v', rfl, ho, hb⟩
        have HH : Hid (Ob u' w.heap.size v' (pr a 0 ++ dd O) ∧ Below w.heap.size w u' ∧ (pr a 0 ++ dd O).length ≤ 4 * 0 + 3) := ⟨ho, hb, by have := H.out.2.2; rw [List.length_append]; omega⟩
        clear ho hb eO
        go_wp2_with (at_builtin; refine wpList_appb (by rfl) _ _ 35 (by rfl) Tryd.underlying35 w.heap.size v' (pr a 0 ++ dd O) (by rfl) u'.heap.size 46 (by rfl) (by have := HH.out.2.2; omega) (by have := HH.out.2.1.size; simp; omega) (World.ownsRow.alloc HH.out.1 _) (by rw [World.cell?_alloc_new]; rfl) ?_; intro v2 w3 ho hg)
        have HN : Hid (Ob w3 w.heap.size v2 (pr a 1) ∧ Below w.heap.size w w3 ∧ (pr a 1).length ≤ 4 * 1) := ⟨by rw [HPr.out]; exact ho, (HH.out.2.1.alloc HH.out.2.1.size _).grown hg (by have := HH.out.2.1.size; simp; omega) (fun j e => (HH.out.1.lt j e).1), by rw [HPr.out, List.length_append, List.length_singleton]; have := HH.out.2.2; omega⟩
        clear ho hg
        go_wp2
        exact ⟨⟨v2, 1, rfl, by omega, rfl, HN⟩, by simp [intOf]⟩
      · have eO : wrap64 (bits BinOp.and IntKind.u32 (a / 65536) 255) = oc a 1 := by
          rw [u32_and_255 _ (by omega) (by omega)]
          show wrap64 ((a / 65536) % 256) = a / 65536 % 256
          unfold wrap64
          omega
        have HPr : Hid (pr a 2 = pr a 1 ++ dd (oc a 1) ++ [46]) := rfl
        obtain ⟨O, hO⟩ : ∃ O, O = oc a 1 := ⟨_, rfl⟩
        have ob := oc_bd a 1
        have hd3 := (dd_ok _ ob.1 ob.2).2.2
        rw [← hO] at eO HPr ob hd3
        clear hO
        go_wp2_with fail
        rw [eO]
        refine (HA.out O ob.1 ob.2 _ H.out.1 H.out.2.1).mono ?_
        rintro e u' ⟨v', rfl, ho, hb⟩
        have HH : Hid (Ob u' w.heap.size v' (pr a 1 ++ dd O) ∧ Below w.heap.size w u' ∧ (pr a 1 ++ dd O).length ≤ 4 * 1 + 3) := ⟨ho, hb, by have := H.out.2.2; rw [List.length_append]; omega⟩
        clear ho hb eO
        go_wp2_with (at_builtin; refine wpList_appb (by rfl) _ _ 35 (by rfl) Tryd.underlying35 w.heap.size v' (pr a 1 ++ dd O) (by rfl) u'.heap.size 46 (by rfl) (by have := HH.out.2.2; omega) (by have := HH.out.2.1.size; simp; omega) (World.ownsRow.alloc HH.out.1 _) (by rw [World.cell?_alloc_new]; rfl) ?_; intro v2 w3 ho hg)
        have HN : Hid (Ob w3 w.heap.size v2 (pr a 2) ∧ Below w.heap.size w w3 ∧ (pr a 2).length ≤ 4 * 2) := ⟨by rw [HPr.out]; exact ho, (HH.out.2.1.alloc HH.out.2.1.size _).grown hg (by have := HH.out.2.1.size; simp; omega) (fun j e => (HH.out.1.lt j e).1), by rw [HPr.out, List.length_append, List.length_singleton]; have := HH.out.2.2; omega⟩
        clear ho hg
        go_wp2
        exact ⟨⟨v2, 2, rfl, by omega, rfl, HN⟩, by simp [intOf]⟩
      · have eO : wrap64 (bits BinOp.and IntKind.u32 (a / 256) 255) = oc a 2 := by
          rw [u32_and_255 _ (by omega) (by omega)]
          show wrap64 ((a / 256) % 256) = a / 256 % 256
          unfold wrap64
          omega
        have HPr : Hid (pr a 3 = pr a 2 ++ dd (oc a 2) ++ [46]) := rfl
        obtain ⟨O, hO⟩ : ∃ O, O = oc a 2 := ⟨_, rfl⟩
        have ob := oc_bd a 2
        have hd3 := (dd_ok _ ob.1 ob.2).2.2
        rw [← hO] at eO HPr ob hd3
        clear hO
        go_wp2_with fail
        rw [eO]
        refine (HA.out O ob.1 ob.2 _ H.out.1 H.out.2.1).mono ?_
        rintro e u' ⟨v', rfl, ho, hb⟩
        have HH : Hid (Ob u' w.heap.size v' (pr a 2 ++ dd O) ∧ Below w.heap.size w u' ∧ (pr a 2 ++ dd O).length ≤ 4 * 2 + 3) := ⟨ho, hb, by have := H.out.2.2; rw [List.length_append]; omega⟩
        clear ho hb eO
        go_wp2_with (at_builtin; refine wpList_appb (by rfl) _ _ 35 (by rfl) Tryd.underlying35 w.heap.size v' (pr a 2 ++ dd O) (by rfl) u'.heap.size 46 (by rfl) (by have := HH.out.2.2; omega) (by have := HH.out.2.1.size; simp; omega) (World.ownsRow.alloc HH.out.1 _) (by rw [World.cell?_alloc_new]; rfl) ?_; intro v2 w3 ho hg)
        have HN : Hid (Ob w3 w.heap.size v2 (pr a 3) ∧ Below w.heap.size w w3 ∧ (pr a 3).length ≤ 4 * 3) := ⟨by rw [HPr.out]; exact ho, (HH.out.2.1.alloc HH.out.2.1.size _).grown hg (by have := HH.out.2.1.size; simp; omega) (fun j e => (HH.out.1.lt j e).1), by rw [HPr.out, List.length_append, List.length_singleton]; have := HH.out.2.2; omega⟩
        clear ho hg
        go_wp2
        exact ⟨⟨v2, 3, rfl, by omega, rfl, HN⟩, by simp [intOf]⟩
      · have eO : wrap64 (bits BinOp.and IntKind.u32 (a) 255) = oc a 3 := by
          rw [u32_and_255 _ (by omega) (by omega)]
          show wrap64 ((a) % 256) = a % 256
          unfold wrap64
          omega
        have HPr : Hid (pr a 4 = pr a 3 ++ dd (oc a 3) ++ []) := rfl
        obtain ⟨O, hO⟩ : ∃ O, O = oc a 3 := ⟨_, rfl⟩
        have ob := oc_bd a 3
        have hd3 := (dd_ok _ ob.1 ob.2).2.2
        rw [← hO] at eO HPr ob hd3
        clear hO
        go_wp2_with fail
        rw [eO]
        refine (HA.out O ob.1 ob.2 _ H.out.1 H.out.2.1).mono ?_
        rintro e u' ⟨v', rfl, ho, hb⟩
        have HH : Hid (Ob u' w.heap.size v' (pr a 3 ++ dd O) ∧ Below w.heap.size w u' ∧ (pr a 3 ++ dd O).length ≤ 4 * 3 + 3) := ⟨ho, hb, by have := H.out.2.2; rw [List.length_append]; omega⟩
        clear ho hb eO
        go_wp2
        exact ⟨⟨v', 4, rfl, by omega, rfl, by rw [HPr.out, List.append_nil]; exact HH.out.1, HH.out.2.1, by rw [HPr.out, List.append_nil]; have := HH.out.2.2; omega⟩, by simp [intOf]⟩
    · have hk4 : k = 4 := by omega
      subst hk4
      have hcs := H.out.1.conv (by rw [pr_4]; unfold pa; simp) 35 Tryd.underlying35
      rw [pr_4] at hcs
      go_wp2
      go_ret
      exact ⟨rfl, H.out.2.1⟩
theorem dig_at : ∀ k, k < 10 → (⟨#[48, 49, 50, 51, 52, 53, 54, 55, 56, 57]⟩ : ByteArray).extract k (k + 1) = tx [dgt k] := by decide
set_option maxHeartbeats 1000000 in
theorem digits_1 (n : Int) (w : World) (h0 : 0 ≤ n) (h : n < 10) :
    Calls Tryd.prog 13 #[.int .i64 n] w fun e w' => e = .returned (.string (tx (dd n))) ∧ w' = w := by
  obtain ⟨k, rfl⟩ := Int.eq_ofNat_of_zero_le h0
  have hd := dig_at k (by omega)
  have HD : Hid (dd (k : Int) = [dgt k]) := by show Lib.decDigits _ = _; rw [Int.toNat_natCast, dd_1 (by omega)]
  go_enter Tryd.func13, Tryd.ntmps13
  go_wp2
  go_ret
  exact ⟨by rw [HD.out]; rfl, rfl⟩
theorem tx_app (a b : List UInt8) : tx a ++ tx b = tx (a ++ b) := by
  apply ByteArray.ext
  unfold tx
  simp
set_option maxHeartbeats 1000000 in
theorem digits_2 (n : Int) (w : World) (h0 : 10 ≤ n) (h : n < 100) :
    Calls Tryd.prog 13 #[.int .i64 n] w fun e w' => e = .returned (.string (tx (dd n))) ∧ ∃ m, w' = w.drewN m := by
  obtain ⟨Q, hQ⟩ : ∃ Q, Q = n / 10 := ⟨_, rfl⟩
  obtain ⟨r, hr⟩ : ∃ r : Nat, (r : Int) = n % 10 := ⟨(n % 10).toNat, by omega⟩
  have q0 : 1 ≤ Q := by omega
  have q1 : Q < 10 := by omega
  have r1 : (r : Int) < 10 := by omega
  have e1 : n.tdiv 10 = Q := by rw [hQ, Int.tdiv_eq_ediv_of_nonneg (by omega)]
  have e2 : n / 10 = Q := hQ.symm
  have e3 : IntKind.i64.wrap Q = Q := by rw [IntKind.wrap_i64]; omega
  have e4 : n % 10 = (r : Int) := hr.symm
  have e5 : n.tmod 10 = (r : Int) := by rw [hr, Int.tmod_eq_emod_of_nonneg (by omega)]
  have hd := dig_at r (by omega)
  have HD : Hid (tx (dd n) = tx (dd Q) ++ tx [dgt r]) := by
    show _ = _
    rw [tx_app]
    unfold dd
    rw [dd_s (by omega), show n.toNat / 10 = Q.toNat by omega, show n.toNat % 10 = r by omega]
  have hcat : ¬ 9223372036854775807 < (tx (dd Q)).size + (tx [dgt r]).size := by
    have hsz : (tx (dd Q)).size ≤ 3 := (dd_ok _ (by omega) (by omega)).2.2
    have h1 : (tx [dgt r]).size = 1 := rfl
    omega
  have hn10 : ¬ n < 10 := by omega
  clear hQ hr h0 h
  go_enter Tryd.func13, Tryd.ntmps13
  go_wp2
  go_quiet ((go_at_call 13; exact Calls.quiet_of_same (digits_1 _ _ (by omega) (by omega))))
  go_wp2
  go_ret
  exact ⟨by rw [HD.out]; rfl, _, rfl⟩
set_option maxHeartbeats 1000000 in
theorem digits_3 (n : Int) (w : World) (h0 : 100 ≤ n) (h : n < 1000) :
    Calls Tryd.prog 13 #[.int .i64 n] w fun e w' => e = .returned (.string (tx (dd n))) ∧ ∃ m, w' = w.drewN m := by
  obtain ⟨Q, hQ⟩ : ∃ Q, Q = n / 10 := ⟨_, rfl⟩
  obtain ⟨r, hr⟩ : ∃ r : Nat, (r : Int) = n % 10 := ⟨(n % 10).toNat, by omega⟩
  have q0 : 10 ≤ Q := by omega
  have q1 : Q < 100 := by omega
  have r1 : (r : Int) < 10 := by omega
  have e1 : n.tdiv 10 = Q := by rw [hQ, Int.tdiv_eq_ediv_of_nonneg (by omega)]
  have e2 : n / 10 = Q := hQ.symm
  have e3 : IntKind.i64.wrap Q = Q := by rw [IntKind.wrap_i64]; omega
  have e4 : n % 10 = (r : Int) := hr.symm
  have e5 : n.tmod 10 = (r : Int) := by rw [hr, Int.tmod_eq_emod_of_nonneg (by omega)]
  have hd := dig_at r (by omega)
  have HD : Hid (tx (dd n) = tx (dd Q) ++ tx [dgt r]) := by
    show _ = _
    rw [tx_app]
    unfold dd
    rw [dd_s (by omega), show n.toNat / 10 = Q.toNat by omega, show n.toNat % 10 = r by omega]
  have hcat : ¬ 9223372036854775807 < (tx (dd Q)).size + (tx [dgt r]).size := by
    have hsz : (tx (dd Q)).size ≤ 3 := (dd_ok _ (by omega) (by omega)).2.2
    have h1 : (tx [dgt r]).size = 1 := rfl
    omega
  have hn10 : ¬ n < 10 := by omega
  clear hQ hr h0 h
  go_enter Tryd.func13, Tryd.ntmps13
  go_wp2
  go_quiet ((go_at_call 13; exact Calls.quiet_of (digits_2 _ _ (by omega) (by omega))))
  go_wp2
  go_ret
  exact ⟨by rw [HD.out]; rfl, _, rfl⟩
end Go.Proofs.YtchhcipoicpglaaDoor
