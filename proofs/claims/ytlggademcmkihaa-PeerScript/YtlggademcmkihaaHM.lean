/- Maps of constants: which mode asks, which modes answer. -/
import Derived.Test.YtlggademcmkihaaHA
import Derived.Maps.OwnOps
import Derived.Maps.Views
namespace Go.Proofs.Ytlggademcmkihaa
open Go Go.RowKit Go.Maps
theorem plain_inj {e : TypeId} (he : Try.prog.underlying e = some .bool ∨ ∃ q, Try.prog.underlying e = some (.int q)) {v v' : Value} {z z' : DataW Unit × List MemPlace} (h : plainElem Try.prog e v = some z) (h' : plainElem Try.prog e v' = some z') (hz : z.1 = z'.1) : v = v' := by
  rcases he with he | ⟨q, he⟩
  · unfold plainElem at h h'
    rw [he] at h h'
    cases v <;> simp at h
    cases v' <;> simp at h'
    subst h h'
    simpa using hz
  · obtain ⟨a, rfl, rfl, _⟩ := plainElem_int_inv he h
    obtain ⟨b, rfl, rfl, _⟩ := plainElem_int_inv he h'
    simpa using hz
/-- block b is a map of at most n entries; looked up at a number k it answers f k -/
structure Mv (q : IntKind) (K E : TypeId) (zd : DataW Unit) (w : World) (b n : Nat) (f : Int → Value) : Prop where
  own : ∃ D : DataW Unit, w.ownsMap Try.prog K (plainElem Try.prog E) b n D ∧ IsMap D ∧ ∀ k, (Lit.int q k).wf = true → ∃ ps, plainElem Try.prog E (f k) = some (D.atKey (.int q k) zd, ps)
theorem Mv.kept {q : IntKind} {K E : TypeId} {zd : DataW Unit} {w w' : World} {b n : Nat} {f : Int → Value} (h : Mv q K E zd w b n f) {row : Option Nat} (hg : w.grownBy w' row) (hne : some b ≠ row) : Mv q K E zd w' b n f := by
  obtain ⟨D, h1, h2⟩ := h.own
  exact ⟨D, h1.kept hg hne, h2⟩
theorem Mv.lt {q : IntKind} {K E : TypeId} {zd : DataW Unit} {w : World} {b n : Nat} {f : Int → Value} (h : Mv q K E zd w b n f) : b < w.heap.size := by
  obtain ⟨D, h1, _⟩ := h.own
  exact h1.lt
theorem Mv.made {q : IntKind} {K E : TypeId} {zd : DataW Unit} {z : Value} (hz : plainElem (H := Unit) Try.prog E z = some (zd, [])) (w : World) : Mv q K E zd (w.alloc (.map #[] 0)) w.heap.size 0 (fun _ => z) :=
  ⟨⟨.map [], World.ownsMap_made w _ _ _, ⟨[], rfl⟩, fun _ _ => ⟨[], hz⟩⟩⟩
/-- what is stored is found; nothing else turns -/
theorem Mv.put {q : IntKind} {K E T : TypeId} {zd : DataW Unit} {w : World} {b n : Nat} {f : Int → Value} (h : Mv q K E zd w b n f) (hK : Try.prog.underlying K = some (.int q)) (hT : Try.prog.underlying T = some (.map K E)) (hn : n < maxLen) {k : Int} (hk : (Lit.int q k).wf = true) {v : Value} {d : DataW Unit} (hv : plainElem (H := Unit) Try.prog E v = some (d, [])) :
    ∃ w', (Instr.mapUpdate T (.map (some b)) (.int q k) v).run Try.prog w = .ok () w' ∧ Mv q K E zd w' b (n + 1) (fun j => if j = k then v else f j) ∧ w.grownBy w' (some b) := by
  obtain ⟨D, h1, h2, h3⟩ := h.own
  obtain ⟨w', g1, g2, g3⟩ := h1.update (int_keyed hK) hT hn (keyOf_int_mk hK hk) hv
  refine ⟨w', g1, ⟨D.put (.int q k) d, g2, ?_, fun j hj => ?_⟩, g3⟩
  · obtain ⟨es, rfl⟩ := h2; exact ⟨_, rfl⟩
  · by_cases e : j = k
    · subst e
      rw [if_pos rfl, atKey_put_same h2 (by trivial)]
      exact ⟨[], hv⟩
    · rw [if_neg e, atKey_put_other (fun h => e (by injection h))]
      exact h3 j hj
theorem Mv.get {q : IntKind} {K E T : TypeId} {zd : DataW Unit} {z : Value} {w : World} {b n : Nat} {f : Int → Value} (h : Mv q K E zd w b n f) (hK : Try.prog.underlying K = some (.int q)) (hT : Try.prog.underlying T = some (.map K E)) (he : Try.prog.underlying E = some .bool ∨ ∃ q, Try.prog.underlying E = some (.int q)) (hzv : (zeroValue E).run Try.prog w = .ok z w) (hz : plainElem (H := Unit) Try.prog E z = some (zd, [])) {k : Int} (hk : (Lit.int q k).wf = true) :
    (Instr.lookup T (.map (some b)) (.int q k) false).run Try.prog w = .ok (f k) w := by
  obtain ⟨D, h1, h2, h3⟩ := h.own
  obtain ⟨v, ps, g1, g2⟩ := h1.lookup (int_keyed hK) hT hzv hz (keyOf_int_mk hK hk)
  obtain ⟨ps', g3⟩ := h3 k hk
  rw [g1, plain_inj he g2 g3 rfl]
/-- a store into a map, for the walk -/
theorem wpList_put {w : World} {ops : Array Oper} {rest : List Oper} {o : Oper} {a : Act} {Q : Exit → Act → World → Prop} (hgd : o.guard = none) (m x y : Operand) (T : TypeId) (ho : o.op = .insert T m x y ∨ o.op = .mapUpdate T m x y)
    {q : IntKind} {K E : TypeId} {zd : DataW Unit} (b n : Nat) (f : Int → Value) (k : Int) (v : Value) (d : DataW Unit) (hK : Try.prog.underlying K = some (.int q)) (hT : Try.prog.underlying T = some (.map K E)) (hm : a.eval m = .map (some b)) (hx : a.eval x = .int q k) (hy : a.eval y = v) (hn : n < maxLen) (hk : (Lit.int q k).wf = true) (hv : plainElem (H := Unit) Try.prog E v = some (d, []))
    (h : Mv q K E zd w b n f) (hgo : ∀ w', Mv q K E zd w' b (n + 1) (fun j => if j = k then v else f j) → w.grownBy w' (some b) → wpList Try.prog ops Q rest (a.put o.dst undef) w') : wpList Try.prog ops Q (o :: rest) a w := by
  refine wpList_plain hgd fun K' hK' => ?_
  obtain ⟨w', h1, h2, h3⟩ := h.put hK hT hn hk hv
  unfold Oper.wp
  rcases ho with ho | ho
  · simp [execOp, ho, hm, hx, hy, h1, Result.andThen]
    exact hK' _ _ (hgo w' h2 h3)
  · simp [execOp, ho, hm, hx, hy, h1, Result.andThen]
    exact hK' _ _ (hgo w' h2 h3)
theorem zeroInt (w : World) : (zeroValue 3).run Try.prog w = .ok (.int .i64 0) w := by kernel_rfl
/-- a map from numbers to numbers -/
def Mi (w : World) (b n : Nat) (f : Int → Value) : Prop := Mv .i64 3 3 (.lit (.int .i64 0)) w b n f
theorem Mi.get {w : World} {b n : Nat} {f : Int → Value} (h : Mi w b n f) {k : Int} (hk : (Lit.int .i64 k).wf = true) : (Instr.lookup 116 (.map (some b)) (.int .i64 k) false).run Try.prog w = .ok (f k) w :=
  Mv.get h Try.underlying3 Try.underlying116 (.inr ⟨_, Try.underlying3⟩) (zeroInt w) (plainElem_int Try.underlying3 (by decide)) hk
theorem Mi.made (w : World) : Mi (w.alloc (.map #[] 0)) w.heap.size 0 (fun _ => .int .i64 0) := Mv.made (plainElem_int Try.underlying3 (by decide)) w
theorem step_put {w : World} {ops : Array Oper} {rest : List Oper} {o : Oper} {a : Act} {Q : Exit → Act → World → Prop} (hgd : o.guard = none) (m x y : Operand) (ho : o.op = .insert 116 m x y)
    (b n : Nat) (f : Int → Value) (k v : Int) (hm : a.eval m = .map (some b)) (hx : a.eval x = .int .i64 k) (hy : a.eval y = .int .i64 v) (hn : n < maxLen) (hk : (Lit.int .i64 k).wf = true) (hv : (Lit.int .i64 v).wf = true)
    (h : Mi w b n f) (hgo : ∀ w', Mi w' b (n + 1) (fun j => if j = k then .int .i64 v else f j) → w.grownBy w' (some b) → wpList Try.prog ops Q rest (a.put o.dst undef) w') : wpList Try.prog ops Q (o :: rest) a w :=
  wpList_put hgd m x y 116 (.inl ho) b n f k _ _ Try.underlying3 Try.underlying116 hm hx hy hn hk (plainElem_int Try.underlying3 hv) h hgo
/-- the mode by which a kind asks -/
def askI (k : Int) : Int := if k = 1 ∨ k = 4 ∨ k = 5 ∨ k = 9 then 3 else if k = 2 then 1 else if k = 7 then 2 else if k = 3 then 5 else 0
/-- does a mode answer a kind -/
def ansB (k m : Int) : Bool := if k = 1 ∨ k = 4 ∨ k = 5 ∨ k = 9 then decide (m = 4) else if k = 2 then decide (m = 1 ∨ m = 2) else if k = 7 then decide (m = 1) else if k = 8 then decide (m = 5) else false
/-- its bits -/
def ansI (k : Int) : Int := if k = 1 ∨ k = 4 ∨ k = 5 ∨ k = 9 then 16 else if k = 2 then 6 else if k = 7 then 2 else if k = 8 then 32 else 0
theorem grown_new {w a b : World} {g : Nat} (h : Below w.heap.size w a) (hg : a.grownBy b (some g)) (hw : w.heap.size ≤ g) : Below w.heap.size w b :=
  h.trans ⟨hg.os, hg.tape, hg.output, hg.size, fun k hk => hg.block k (Nat.lt_of_lt_of_le hk h.size) (fun e => by injection e with e; omega)⟩
set_option maxRecDepth 20000 in
set_option maxHeartbeats 1000000 in
theorem askMode_any (k : Int) (w : World) (hk : (Lit.int .i64 k).wf = true) :
    Calls Try.prog 55 #[.int .i64 k] w fun e w' => e = .returned (.int .i64 (askI k)) ∧ Below w.heap.size w w' := by
  have hmm := @run_makeMap Try.prog
  have HK : Hid ((Lit.int .i64 k).wf = true) := hk
  clear hk
  go_enter Try.func55, Try.ntmps55
  refine post_hid fun Q hQ => ?_
  refine seq_hid fun R hR => ?_
  go_wp2
  rw [hR.out]
  clear hR
  refine seq_hid fun R hR => ?_
  have M0 : Hid (Mi (w.alloc (.map #[] 0)) w.heap.size 0 (fun _ => .int .i64 0)) := Mi.made w
  have B0 : Hid (Below w.heap.size w (w.alloc (.map #[] 0))) := (Below.refl _ _).alloc (Nat.le_refl _) _
  go_wp2_with (first
    | (refine step_put rfl _ _ _ rfl w.heap.size 0 _ _ _ (by rfl) (by rfl) (by rfl) (by decide) (by decide) (by decide) M0.out ?_; intro w1 m1 g1; have M1 : Hid (Mi w1 w.heap.size 1 _) := m1; have B1 : Hid (Below w.heap.size w w1) := grown_new B0.out g1 (Nat.le_refl _); clear m1 g1)
    | (refine step_put rfl _ _ _ rfl w.heap.size 1 _ _ _ (by rfl) (by rfl) (by rfl) (by decide) (by decide) (by decide) M1.out ?_; intro w2 m2 g2; have M2 : Hid (Mi w2 w.heap.size 2 _) := m2; have B2 : Hid (Below w.heap.size w w2) := grown_new B1.out g2 (Nat.le_refl _); clear m2 g2)
    | (refine step_put rfl _ _ _ rfl w.heap.size 2 _ _ _ (by rfl) (by rfl) (by rfl) (by decide) (by decide) (by decide) M2.out ?_; intro w3 m3 g3; have M3 : Hid (Mi w3 w.heap.size 3 _) := m3; have B3 : Hid (Below w.heap.size w w3) := grown_new B2.out g3 (Nat.le_refl _); clear m3 g3)
    | (refine step_put rfl _ _ _ rfl w.heap.size 3 _ _ _ (by rfl) (by rfl) (by rfl) (by decide) (by decide) (by decide) M3.out ?_; intro w4 m4 g4; have M4 : Hid (Mi w4 w.heap.size 4 _) := m4; have B4 : Hid (Below w.heap.size w w4) := grown_new B3.out g4 (Nat.le_refl _); clear m4 g4)
    | (refine step_put rfl _ _ _ rfl w.heap.size 4 _ _ _ (by rfl) (by rfl) (by rfl) (by decide) (by decide) (by decide) M4.out ?_; intro w5 m5 g5; have M5 : Hid (Mi w5 w.heap.size 5 _) := m5; have B5 : Hid (Below w.heap.size w w5) := grown_new B4.out g5 (Nat.le_refl _); clear m5 g5)
    | (refine step_put rfl _ _ _ rfl w.heap.size 5 _ _ _ (by rfl) (by rfl) (by rfl) (by decide) (by decide) (by decide) M5.out ?_; intro w6 m6 g6; have M6 : Hid (Mi w6 w.heap.size 6 _) := m6; have B6 : Hid (Below w.heap.size w w6) := grown_new B5.out g6 (Nat.le_refl _); clear m6 g6)
    | (refine step_put rfl _ _ _ rfl w.heap.size 6 _ _ _ (by rfl) (by rfl) (by rfl) (by decide) (by decide) (by decide) M6.out ?_; intro w7 m7 g7; have M7 : Hid (Mi w7 w.heap.size 7 _) := m7; have B7 : Hid (Below w.heap.size w w7) := grown_new B6.out g7 (Nat.le_refl _); clear m7 g7))
  have L := M7.out.get HK.out
  clear M0 M1 M2 M3 M4 M5 M6 M7 B0 B1 B2 B3 B4 B5 B6
  have e : ∀ f, f = Value.int .i64 (askI k) → (Instr.lookup 116 (.map (some w.heap.size)) (.int .i64 k) false).run Try.prog w7 = .ok f w7 → (Instr.lookup 116 (.map (some w.heap.size)) (.int .i64 k) false).run Try.prog w7 = .ok (.int .i64 (askI k)) w7 := fun f h1 h2 => by rw [← h1]; exact h2
  have L2 := e _ (by unfold askI; (repeat' split) <;> first | rfl | omega) L
  clear e L
  rw [hR.out]
  clear hR
  go_wp2_with fail
  rw [hQ.out]
  go_ret
  exact ⟨rfl, B7.out⟩
theorem bit_at (J m : Int) (x : Nat) (hx : (x : Int) = m % 18446744073709551616) (hJ : J = 16 ∨ J = 6 ∨ J = 2 ∨ J = 32 ∨ J = 0) (h0 : -9223372036854775808 ≤ m) (h1 : m ≤ 9223372036854775807) :
    (bits BinOp.and IntKind.i64 (J / 2 ^ min x 64) 1 == 1) = decide ((J = 16 ∧ m = 4) ∨ (J = 6 ∧ (m = 1 ∨ m = 2)) ∨ (J = 2 ∧ m = 1) ∨ (J = 32 ∧ m = 5)) := by
  by_cases h : x < 6
  · have hm : m = x := by omega
    subst hm
    rcases (show x = 0 ∨ x = 1 ∨ x = 2 ∨ x = 3 ∨ x = 4 ∨ x = 5 by omega) with rfl | rfl | rfl | rfl | rfl | rfl <;> rcases hJ with rfl | rfl | rfl | rfl | rfl <;> decide
  · have e : J / 2 ^ min x 64 = 0 := by
      have hp : (2 : Int) ^ 6 ≤ 2 ^ min x 64 := by
        have : (2 : Nat) ^ 6 ≤ 2 ^ min x 64 := Nat.pow_le_pow_right (by decide) (by omega)
        exact_mod_cast this
      exact Int.ediv_eq_zero_of_lt (by omega) (by omega)
    rw [e]
    have : ¬ ((J = 16 ∧ m = 4) ∨ (J = 6 ∧ (m = 1 ∨ m = 2)) ∨ (J = 2 ∧ m = 1) ∨ (J = 32 ∧ m = 5)) := by omega
    rw [decide_eq_false this]
    decide
theorem ans_bits (k m : Int) (hm : (Lit.int .i64 m).wf = true) : (bits BinOp.and IntKind.i64 (ansI k / 2 ^ min (IntKind.u64.wrap m).toNat 64) 1 == 1) = ansB k m := by
  have hb : -9223372036854775808 ≤ m ∧ m ≤ 9223372036854775807 := by
    have e1 : IntKind.i64.min = -9223372036854775808 := by decide
    have e2 : IntKind.i64.max = 9223372036854775807 := by decide
    simp [Lit.wf, e1, e2] at hm
    omega
  rw [bit_at (ansI k) m _ (by rw [IntKind.wrap_u64]; omega) (by unfold ansI; (repeat' split) <;> simp) hb.1 hb.2]
  unfold ansI ansB
  (repeat' split) <;> simp
set_option maxRecDepth 20000 in
set_option maxHeartbeats 1000000 in
theorem isAnsweredBy_any (k m : Int) (w : World) (hk : (Lit.int .i64 k).wf = true) (hm : (Lit.int .i64 m).wf = true) :
    Calls Try.prog 70 #[.int .i64 k, .int .i64 m] w fun e w' => e = .returned (.bool (ansB k m)) ∧ Below w.heap.size w w' := by
  have HM : Hid ((Lit.int .i64 m).wf = true) := hm
  clear hm
  have hmm := @run_makeMap Try.prog
  have HK : Hid ((Lit.int .i64 k).wf = true) := hk
  clear hk
  go_enter Try.func70, Try.ntmps70
  refine post_hid fun Q hQ => ?_
  refine seq_hid fun R hR => ?_
  go_wp2
  rw [hR.out]
  clear hR
  refine seq_hid fun R hR => ?_
  have M0 : Hid (Mi (w.alloc (.map #[] 0)) w.heap.size 0 (fun _ => .int .i64 0)) := Mi.made w
  have B0 : Hid (Below w.heap.size w (w.alloc (.map #[] 0))) := (Below.refl _ _).alloc (Nat.le_refl _) _
  go_wp2_with (first
    | (refine step_put rfl _ _ _ rfl w.heap.size 0 _ _ _ (by rfl) (by rfl) (by rfl) (by decide) (by decide) (by decide) M0.out ?_; intro w1 m1 g1; have M1 : Hid (Mi w1 w.heap.size 1 _) := m1; have B1 : Hid (Below w.heap.size w w1) := grown_new B0.out g1 (Nat.le_refl _); clear m1 g1)
    | (refine step_put rfl _ _ _ rfl w.heap.size 1 _ _ _ (by rfl) (by rfl) (by rfl) (by decide) (by decide) (by decide) M1.out ?_; intro w2 m2 g2; have M2 : Hid (Mi w2 w.heap.size 2 _) := m2; have B2 : Hid (Below w.heap.size w w2) := grown_new B1.out g2 (Nat.le_refl _); clear m2 g2)
    | (refine step_put rfl _ _ _ rfl w.heap.size 2 _ _ _ (by rfl) (by rfl) (by rfl) (by decide) (by decide) (by decide) M2.out ?_; intro w3 m3 g3; have M3 : Hid (Mi w3 w.heap.size 3 _) := m3; have B3 : Hid (Below w.heap.size w w3) := grown_new B2.out g3 (Nat.le_refl _); clear m3 g3)
    | (refine step_put rfl _ _ _ rfl w.heap.size 3 _ _ _ (by rfl) (by rfl) (by rfl) (by decide) (by decide) (by decide) M3.out ?_; intro w4 m4 g4; have M4 : Hid (Mi w4 w.heap.size 4 _) := m4; have B4 : Hid (Below w.heap.size w w4) := grown_new B3.out g4 (Nat.le_refl _); clear m4 g4)
    | (refine step_put rfl _ _ _ rfl w.heap.size 4 _ _ _ (by rfl) (by rfl) (by rfl) (by decide) (by decide) (by decide) M4.out ?_; intro w5 m5 g5; have M5 : Hid (Mi w5 w.heap.size 5 _) := m5; have B5 : Hid (Below w.heap.size w w5) := grown_new B4.out g5 (Nat.le_refl _); clear m5 g5)
    | (refine step_put rfl _ _ _ rfl w.heap.size 5 _ _ _ (by rfl) (by rfl) (by rfl) (by decide) (by decide) (by decide) M5.out ?_; intro w6 m6 g6; have M6 : Hid (Mi w6 w.heap.size 6 _) := m6; have B6 : Hid (Below w.heap.size w w6) := grown_new B5.out g6 (Nat.le_refl _); clear m6 g6)
    | (refine step_put rfl _ _ _ rfl w.heap.size 6 _ _ _ (by rfl) (by rfl) (by rfl) (by decide) (by decide) (by decide) M6.out ?_; intro w7 m7 g7; have M7 : Hid (Mi w7 w.heap.size 7 _) := m7; have B7 : Hid (Below w.heap.size w w7) := grown_new B6.out g7 (Nat.le_refl _); clear m7 g7))
  have L := M7.out.get HK.out
  clear M0 M1 M2 M3 M4 M5 M6 M7 B0 B1 B2 B3 B4 B5 B6
  have e : ∀ f, f = Value.int .i64 (ansI k) → (Instr.lookup 116 (.map (some w.heap.size)) (.int .i64 k) false).run Try.prog w7 = .ok f w7 → (Instr.lookup 116 (.map (some w.heap.size)) (.int .i64 k) false).run Try.prog w7 = .ok (.int .i64 (ansI k)) w7 := fun f h1 h2 => by rw [← h1]; exact h2
  have L2 := e _ (by unfold ansI; (repeat' split) <;> first | rfl | omega) L
  clear e L
  obtain ⟨J, hJ⟩ : ∃ J, ansI k = J := ⟨_, rfl⟩
  rw [hJ] at L2
  rw [hR.out]
  clear hR
  go_wp2_with fail
  rw [hQ.out]
  go_ret
  exact ⟨ret_bool' (by rw [← hJ]; exact ans_bits k m HM.out), B7.out⟩
end Go.Proofs.Ytlggademcmkihaa
