/- What divide of the reference's whole numbers returns: the digits of the quotient, divided down, and of what is left. -/
import Derived.Test.YtenlkadmniobdaaBigD
import Derived.WalkKit
import Derived.WalkSpells
import Derived.WalkLawsBesides
import Derived.Laws.AppendOwnNone
namespace Bg
theorem can_le {a b : List Nat} (ha : can a) (hb : can b) (h : val a ≤ val b) : a.length ≤ b.length := by
  refine Nat.le_of_not_lt fun x => ?_
  have := cmp_len hb.1 ha x
  omega
/-- one digit more, from the front -/
theorem long_div (H a V : Nat) (hV : 0 < V) : (a + 65536 * H) / V = (a + 65536 * (H % V)) / V + 65536 * (H / V) ∧ (a + 65536 * H) % V = (a + 65536 * (H % V)) % V := by
  have h := Nat.div_add_mod H V
  have e : a + 65536 * H = a + 65536 * (H % V) + V * (65536 * (H / V)) := by
    rw [← Nat.mul_assoc, Nat.mul_comm V 65536, Nat.mul_assoc]
    omega
  rw [e, Nat.add_mul_div_left _ _ hV, Nat.add_mul_mod_self_left]
  exact ⟨rfl, rfl⟩
theorem digit_lt (a r V : Nat) (ha : a < 65536) (hr : r < V) : (a + 65536 * r) / V < 65536 := by
  rw [Nat.div_lt_iff_lt_mul (by omega)]
  have := Nat.mul_le_mul_left 65536 (show r + 1 ≤ V from hr)
  omega
theorem fits_iff (V m R : Nat) (hV : 0 < V) : V * m ≤ R ↔ m ≤ R / V := by rw [Nat.le_div_iff_mul_le hV, Nat.mul_comm]
theorem left_of (V R : Nat) : R - V * (R / V) = R % V ∧ V * (R / V) ≤ R := by
  have := Nat.div_add_mod R V
  omega
theorem val_one (d : Nat) : val [d] = d := by simp [val]
theorem dok_one (d : Nat) (h : d < 65536) : dok [d] := fun x hx => by simp at hx; omega
/-- a digit set from the front -/
theorem drop_set (Q : List Nat) (k d : Nat) (hk : k < Q.length) : val ((Q.set k d).drop k) = d + 65536 * val (Q.drop (k + 1)) := by
  rw [drop_at _ k (by rw [List.length_set]; exact hk), val, getD_at _ _ (by rw [List.length_set]; exact hk), List.getElem_set_self, List.drop_set]
  simp
end Bg
namespace Go.Proofs.Ytenlkadmniobdaa
open Go.RowKit
theorem grown_of_below {w w' : World} (h : Below w.heap.size w w') : w.grownBy w' none := ⟨h.os, h.tape, h.output, h.size, fun k hk _ => h.block k hk⟩
theorem own_below {w w' : World} {base e size n : Nat} {v : Value} {xs : List Value} (h : w.ownsRow base e size v n xs) (hb : Below w.heap.size w w') : w'.ownsRow base e size v n xs :=
  h.kept (grown_of_below hb) (by cases v.ownBlock <;> simp)
theorem Rd.store {w : World} {ao : Option Addr} {ds : List Nat} (h : Rd w ao ds) {g p : Nat} (hn : ∀ ad, ao = some ad → ad.block ≠ g) (u : Value) : Rd (w.setCell ⟨g, p, none⟩ u) ao ds := fun k hk => by
  obtain ⟨b, h1, h2, h3⟩ := h k hk
  refine ⟨b, h1, by simpa using h2, ?_⟩
  have hne : b ≠ g := hn _ h1
  rw [← h3]
  exact World.cell?_of_block (Below.heap_setCell w ⟨g, p, none⟩ u b hne)
theorem rd_lit (w : World) (d : Nat) : Rd (w.alloc (.cells #[.int .i64 (d : Int)] 3)) (some ⟨w.heap.size, 0, none⟩) [d] := fun k hk => by
  simp at hk
  subst hk
  exact ⟨w.heap.size, rfl, by simp, by simp⟩
/-- append to a row that the call has made, of another slice, nil or not -/
theorem append_any {P : Program} {w : World} {ops : Array Oper} {rest : List Oper} {o : Oper} {a : Act} {Q : Exit → Act → World → Prop} (hgd : o.guard = none) (s x : Operand) (t : TypeId)
    (ho : o.op = .call { callee := .builtin .append, args := #[s, x], argTypes := #[t, t] })
    (base : Nat) (e : TypeId) (i : TypeInfo) (ht : P.underlying t = some (.slice e)) (hi : P.info? e = some i) (hz : i.zero = some (.int .i64 0))
    (hsize : i.size = 1) (hby : i.bytes = 8)
    (v : Value) (n : Nat) (xs : List Value) (hs : a.eval s = v) (hown : w.ownsRow base e 1 v n xs)
    (ro : Option Addr) (R : List Nat) (c : Nat) (hx : a.eval x = .slice ro R.length c) (hR : Rd w ro R) (hN : ro = none → c = 0) (hc : R.length ≤ c)
    (h63 : n + R.length ≤ 1000000) (hbase : base ≤ w.heap.size)
    (h : ∀ v' w', w'.ownsRow base e 1 v' (n + R.length) (xs ++ vals R) → w.grownBy w' v.ownBlock → wpList P ops Q rest (a.put o.dst v') w') : wpList P ops Q (o :: rest) a w := by
  rcases ro with _ | ad
  · have hc0 := hN rfl
    have hl : R = [] := List.length_eq_zero_iff.1 (by omega)
    subst hl hc0
    refine wpList_append_own_none hgd s x t ho base e i 1 ht hi v n xs hs hown hx ?_
    refine h v w ?_ ⟨rfl, rfl, rfl, Nat.le_refl _, fun _ _ _ => rfl⟩
    simpa [vals] using hown
  · refine wpList_append_own w hgd s x t ho base e i (.int .i64 0) 1 8 ht hi hz hsize hby rfl (by decide) v n xs hs hown ad R.length c (vals R) hx (by rw [vals_len]; omega) ?_ ?_ (by unfold maxLen; omega) (by omega) hbase fun v' w' h1 h2 _ => h v' w' h1 h2
    · intro j u hj
      unfold vals at hj
      rw [List.getElem?_map] at hj
      by_cases hjl : j < R.length
      · rw [List.getElem?_eq_getElem hjl] at hj
        obtain ⟨b, h1, h2, h3⟩ := hR j hjl
        simp at h1
        subst h1
        simp at hj
        subst hj
        rw [Bg.getD_at _ _ hjl] at h3
        by_cases hj0 : j = 0
        · subst hj0; simpa [Addr.add] using h3
        · simpa [Addr.add, hj0] using h3
      · rw [List.getElem?_eq_none (by omega)] at hj
        simp at hj
    · intro u hu
      unfold vals at hu
      simp at hu
      obtain ⟨d, _, rfl⟩ := hu
      rfl
theorem own_one (w : World) (x : Int) : (w.alloc (.cells #[.int .i64 x] 3)).ownsRow w.heap.size 3 1 (.slice (some ⟨w.heap.size, 0, none⟩) 1 1) 1 [.int .i64 x] :=
  World.ownsRow_lit w #[.int .i64 x] 1 (Nat.le_refl _) (by decide) rfl
theorem vals_one (x : Int) (d : Nat) (R : List Nat) (h : x = (d : Int)) : [Value.int .i64 x] ++ vals R = vals (d :: R) := by
  rw [h]; simp [vals]
theorem trim_rd (ao : Option Addr) (ds : List Nat) (cap : Nat) (w : World) (hn1 : (ds.length : Int) ≤ 1000000) (hc : (ds.length : Int) ≤ cap) (hr : Rd w ao ds) (hd : Bg.dok ds) :
    Calls Try.prog 73 #[.slice ao ds.length cap] w fun e w' => ∃ R : List Nat, e = .returned (.slice ao R.length cap) ∧ R.length ≤ ds.length ∧ Bg.can R ∧ Bg.val R = Bg.val ds ∧ Rd w ao R ∧ w = w' := by
  refine (trim_any ao ds cap w hn1 hc hr hd).mono ?_
  rintro e w' ⟨m, rfl, h1, h2, h3, rfl⟩
  have hl : (ds.take m).length = m := by rw [List.length_take]; omega
  exact ⟨ds.take m, ret_slice hl.symm, by omega, h2, h3, hr.take m, rfl⟩
/-- what holds ahead of each digit of the quotient -/
structure Dv (w wr : World) (A : List Nat) (V : Nat) (j : Int) (ro : Option Addr) (rc : Nat) (R Q : List Nat) : Prop where
  own : wr.ownsRow w.heap.size 3 1 (.slice (some ⟨w.heap.size, 0, none⟩) A.length A.length) A.length (vals Q)
  len : Q.length = A.length
  dq : Bg.dok Q
  rd : Rd wr ro R
  can : Bg.can R
  cap : R.length ≤ rc
  new : New (w.heap.size + 1) ro rc
  rest : Bg.val R = Bg.val (A.drop (j + 1).toNat) % V
  quo : Bg.val (Q.drop (j + 1).toNat) = Bg.val (A.drop (j + 1).toNat) / V
  below : Below w.heap.size w wr
  size : w.heap.size + 1 ≤ wr.heap.size
end Go.Proofs.Ytenlkadmniobdaa
