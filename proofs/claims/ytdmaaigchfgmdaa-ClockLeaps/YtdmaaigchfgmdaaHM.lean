/- Maps of constants: which mode asks, which modes answer. -/
import Derived.Test.YtdmaaigchfgmdaaHA
import Derived.Maps.OwnOps
import Derived.Maps.Views
namespace Go.Proofs.Ytdmaaigchfgmdaa
open Go Go.RowKit Go.Maps
theorem plain_inj {e : TypeId} (he : Try.prog.underlying e = some .bool ∨ ∃ q, Try.prog.underlying e = some (.int q)) {v v' : Value} {z z' : DataW Unit × List MemPlace} (h : plainElem Try.prog e v = some z) (h' : plainElem Try.prog e v' = some z') (hz : z.1 = z'.1) : v = v' := by
  rcases he with he | ⟨q, he⟩
  · unfold plainElem at h h'
    rw [he] at h h'
    cases v <;> simp at h
    cases v' <;> simp at h'
    subst h h'
    simpa using hz
  · obtain ⟨a, rfl, rfl, _⟩ := plainElem_int_inv he h
    obtain ⟨b, rfl, rfl, _⟩ := plainElem_int_inv he h'
    simpa using hz
/-- block b is a map of at most n entries; looked up at a number k it answers f k -/
structure Mv (q : IntKind) (K E : TypeId) (zd : DataW Unit) (w : World) (b n : Nat) (f : Int → Value) : Prop where
  own : ∃ D : DataW Unit, w.ownsMap Try.prog K (plainElem Try.prog E) b n D ∧ IsMap D ∧ ∀ k, (Lit.int q k).wf = true → ∃ ps, plainElem Try.prog E (f k) = some (D.atKey (.int q k) zd, ps)
theorem Mv.kept {q : IntKind} {K E : TypeId} {zd : DataW Unit} {w w' : World} {b n : Nat} {f : Int → Value} (h : Mv q K E zd w b n f) {row : Option Nat} (hg : w.grownBy w' row) (hne : some b ≠ row) : Mv q K E zd w' b n f := by
  obtain ⟨D, h1, h2⟩ := h.own
  exact ⟨D, h1.kept hg hne, h2⟩
theorem Mv.lt {q : IntKind} {K E : TypeId} {zd : DataW Unit} {w : World} {b n : Nat} {f : Int → Value} (h : Mv q K E zd w b n f) : b < w.heap.size := by
  obtain ⟨D, h1, _⟩ := h.own
  exact h1.lt
theorem Mv.made {q : IntKind} {K E : TypeId} {zd : DataW Unit} {z : Value} (hz : plainElem (H := Unit) Try.prog E z = some (zd, [])) (w : World) : Mv q K E zd (w.alloc (.map #[] 0)) w.heap.size 0 (fun _ => z) :=
  ⟨⟨.map [], World.ownsMap_made w _ _ _, ⟨[], rfl⟩, fun _ _ => ⟨[], hz⟩⟩⟩
/-- what is stored is found; nothing else turns -/
theorem Mv.put {q : IntKind} {K E T : TypeId} {zd : DataW Unit} {w : World} {b n : Nat} {f : Int → Value} (h : Mv q K E zd w b n f) (hK : Try.prog.underlying K = some (.int q)) (hT : Try.prog.underlying T = some (.map K E)) (hn : n < maxLen) {k : Int} (hk : (Lit.int q k).wf = true) {v : Value} {d : DataW Unit} (hv : plainElem (H := Unit) Try.prog E v = some (d, [])) :
    ∃ w', (Instr.mapUpdate T (.map (some b)) (.int q k) v).run Try.prog w = .ok () w' ∧ Mv q K E zd w' b (n + 1) (fun j => if j = k then v else f j) ∧ w.grownBy w' (some b) := by
  obtain ⟨D, h1, h2, h3⟩ := h.own
  obtain ⟨w', g1, g2, g3⟩ := h1.update (int_keyed hK) hT hn (keyOf_int_mk hK hk) hv
  refine ⟨w', g1, ⟨D.put (.int q k) d, g2, ?_, fun j hj => ?_⟩, g3⟩
  · obtain ⟨es, rfl⟩ := h2; exact ⟨_, rfl⟩
  · by_cases e : j = k
    · subst e
      rw [if_pos rfl, atKey_put_same h2 (by trivial)]
      exact ⟨[], hv⟩
    · rw [if_neg e, atKey_put_other (fun h => e (by injection h))]
      exact h3 j hj
theorem Mv.get {q : IntKind} {K E T : TypeId} {zd : DataW Unit} {z : Value} {w : World} {b n : Nat} {f : Int → Value} (h : Mv q K E zd w b n f) (hK : Try.prog.underlying K = some (.int q)) (hT : Try.prog.underlying T = some (.map K E)) (he : Try.prog.underlying E = some .bool ∨ ∃ q, Try.prog.underlying E = some (.int q)) (hzv : (zeroValue E).run Try.prog w = .ok z w) (hz : plainElem (H := Unit) Try.prog E z = some (zd, [])) {k : Int} (hk : (Lit.int q k).wf = true) :
    (Instr.lookup T (.map (some b)) (.int q k) false).run Try.prog w = .ok (f k) w := by
  obtain ⟨D, h1, h2, h3⟩ := h.own
  obtain ⟨v, ps, g1, g2⟩ := h1.lookup (int_keyed hK) hT hzv hz (keyOf_int_mk hK hk)
  obtain ⟨ps', g3⟩ := h3 k hk
  rw [g1, plain_inj he g2 g3 rfl]
/-- a store into a map, for the walk -/
theorem wpList_put {w : World} {ops : Array Oper} {rest : List Oper} {o : Oper} {a : Act} {Q : Exit → Act → World → Prop} (hgd : o.guard = none) (m x y : Operand) (T : TypeId) (ho : o.op = .insert T m x y ∨ o.op = .mapUpdate T m x y)
    {q : IntKind} {K E : TypeId} {zd : DataW Unit} (b n : Nat) (f : Int → Value) (k : Int) (v : Value) (d : DataW Unit) (hK : Try.prog.underlying K = some (.int q)) (hT : Try.prog.underlying T = some (.map K E)) (hm : a.eval m = .map (some b)) (hx : a.eval x = .int q k) (hy : a.eval y = v) (hn : n < maxLen) (hk : (Lit.int q k).wf = true) (hv : plainElem (H := Unit) Try.prog E v = some (d, []))
    (h : Mv q K E zd w b n f) (hgo : ∀ w', Mv q K E zd w' b (n + 1) (fun j => if j = k then v else f j) → w.grownBy w' (some b) → wpList Try.prog ops Q rest (a.put o.dst undef) w') : wpList Try.prog ops Q (o :: rest) a w := by
  refine wpList_plain hgd fun K' hK' => ?_
  obtain ⟨w', h1, h2, h3⟩ := h.put hK hT hn hk hv
  unfold Oper.wp
  rcases ho with ho | ho
  · simp [execOp, ho, hm, hx, hy, h1, Result.andThen]
    exact hK' _ _ (hgo w' h2 h3)
  · simp [execOp, ho, hm, hx, hy, h1, Result.andThen]
    exact hK' _ _ (hgo w' h2 h3)
theorem zeroInt (w : World) : (zeroValue 3).run Try.prog w = .ok (.int .i64 0) w := by kernel_rfl
/-- a map from numbers to numbers -/
def Mi (w : World) (b n : Nat) (f : Int → Value) : Prop := Mv .i64 3 3 (.lit (.int .i64 0)) w b n f
theorem Mi.made (w : World) : Mi (w.alloc (.map #[] 0)) w.heap.size 0 (fun _ => .int .i64 0) := Mv.made (plainElem_int Try.underlying3 (by decide)) w
/-- the mode by which a kind asks -/
def askI (k : Int) : Int := if k = 1 ∨ k = 4 ∨ k = 5 ∨ k = 9 then 3 else if k = 2 then 1 else if k = 7 then 2 else if k = 3 then 5 else 0
/-- does a mode answer a kind -/
def ansB (k m : Int) : Bool := if k = 1 ∨ k = 4 ∨ k = 5 ∨ k = 9 then decide (m = 4) else if k = 2 then decide (m = 1 ∨ m = 2) else if k = 7 then decide (m = 1) else if k = 8 then decide (m = 5) else false
/-- its bits -/
def ansI (k : Int) : Int := if k = 1 ∨ k = 4 ∨ k = 5 ∨ k = 9 then 16 else if k = 2 then 6 else if k = 7 then 2 else if k = 8 then 32 else 0
theorem grown_new {w a b : World} {g : Nat} (h : Below w.heap.size w a) (hg : a.grownBy b (some g)) (hw : w.heap.size ≤ g) : Below w.heap.size w b :=
  h.trans ⟨hg.os, hg.tape, hg.output, hg.size, fun k hk => hg.block k (Nat.lt_of_lt_of_le hk h.size) (fun e => by injection e with e; omega)⟩
theorem bit_at (J m : Int) (x : Nat) (hx : (x : Int) = m % 18446744073709551616) (hJ : J = 16 ∨ J = 6 ∨ J = 2 ∨ J = 32 ∨ J = 0) (h0 : -9223372036854775808 ≤ m) (h1 : m ≤ 9223372036854775807) :
    (bits BinOp.and IntKind.i64 (J / 2 ^ min x 64) 1 == 1) = decide ((J = 16 ∧ m = 4) ∨ (J = 6 ∧ (m = 1 ∨ m = 2)) ∨ (J = 2 ∧ m = 1) ∨ (J = 32 ∧ m = 5)) := by
  by_cases h : x < 6
  · have hm : m = x := by omega
    subst hm
    rcases (show x = 0 ∨ x = 1 ∨ x = 2 ∨ x = 3 ∨ x = 4 ∨ x = 5 by omega) with rfl | rfl | rfl | rfl | rfl | rfl <;> rcases hJ with rfl | rfl | rfl | rfl | rfl <;> decide
  · have e : J / 2 ^ min x 64 = 0 := by
      have hp : (2 : Int) ^ 6 ≤ 2 ^ min x 64 := by
        have : (2 : Nat) ^ 6 ≤ 2 ^ min x 64 := Nat.pow_le_pow_right (by decide) (by omega)
        exact_mod_cast this
      exact Int.ediv_eq_zero_of_lt (by omega) (by omega)
    rw [e]
    have : ¬ ((J = 16 ∧ m = 4) ∨ (J = 6 ∧ (m = 1 ∨ m = 2)) ∨ (J = 2 ∧ m = 1) ∨ (J = 32 ∧ m = 5)) := by omega
    rw [decide_eq_false this]
    decide
theorem ans_bits (k m : Int) (hm : (Lit.int .i64 m).wf = true) : (bits BinOp.and IntKind.i64 (ansI k / 2 ^ min (IntKind.u64.wrap m).toNat 64) 1 == 1) = ansB k m := by
  have hb : -9223372036854775808 ≤ m ∧ m ≤ 9223372036854775807 := by
    have e1 : IntKind.i64.min = -9223372036854775808 := by decide
    have e2 : IntKind.i64.max = 9223372036854775807 := by decide
    simp [Lit.wf, e1, e2] at hm
    omega
  rw [bit_at (ansI k) m _ (by rw [IntKind.wrap_u64]; omega) (by unfold ansI; (repeat' split) <;> simp) hb.1 hb.2]
  unfold ansI ansB
  (repeat' split) <;> simp
end Go.Proofs.Ytdmaaigchfgmdaa
