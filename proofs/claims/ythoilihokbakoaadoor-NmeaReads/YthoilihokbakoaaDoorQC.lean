/- Digits written; bytes that grow out of a constant text. -/
import Derived.Test.YthoilihokbakoaaDoorQB
import Derived.Test.YthoilihokbakoaaDoorNB
import Derived.ArgAppend
import Derived.Lib.AppendStr
import Derived.Lib.SlBytesConst
import Derived.Laws.BytesArg
namespace Go.Proofs.YthoilihokbakoaaDoor
open Go Go.RowKit
/-- a number in so many digits -/
def dg : Nat → Int → List UInt8
  | 0, _ => []
  | k + 1, n => dg k (n / 10) ++ [UInt8.ofNat (48 + (n % 10).toNat)]
theorem dg_len (k : Nat) : ∀ n, (dg k n).length = k := by
  induction k with
  | zero => intro n; rfl
  | succ k ih => intro n; rw [dg, List.length_append, ih]; rfl
theorem dg_digit (n : Int) : (UInt8.ofNat (48 + (n % 10).toNat)).toNat = 48 + (n % 10).toNat := by
  rw [UInt8.toNat_ofNat']
  omega
/-- bytes to which one may append: a row of the call's own, or a full row -/
def OwM (w : World) (B : Nat) (v : Value) (bs : List Int) : Prop := Own w B v bs ∨ (0 < bs.length ∧ ∃ g, v = .slice (some ⟨g, 0, none⟩) bs.length bs.length ∧ B ≤ g ∧ g < w.heap.size ∧ ∀ k, k < bs.length → w.cell? ⟨g, k, none⟩ = some (.int .u8 (bs.getD k 0)))
theorem OwM.alloc {w : World} {B : Nat} {v : Value} {bs : List Int} (h : OwM w B v bs) (o : Obj) : OwM (w.alloc o) B v bs := by
  rcases h with h | ⟨h0, g, h1, h2, h3, h4⟩
  · exact .inl (World.ownsRow.alloc h o)
  · exact .inr ⟨h0, g, h1, h2, by simp; omega, fun k hk => by rw [World.cell?_alloc_lt _ _ _ h3]; exact h4 k hk⟩
theorem OwM.lt {w : World} {B : Nat} {v : Value} {bs : List Int} (h : OwM w B v bs) : ∀ k, v.ownBlock = some k → B ≤ k := by
  rcases h with h | ⟨h0, g, h1, h2, h3, h4⟩
  · exact fun k e => (World.ownsRow.lt h k e).1
  · intro k e
    subst h1
    simp [Value.ownBlock] at e
    omega
theorem OwM.sv {w : World} {B : Nat} {v : Value} {bs : List Int} (h : OwM w B v bs) (hok : okb bs) : Sv w.heap.size w v bs := by
  rcases h with h | ⟨h0, g, h1, h2, h3, h4⟩
  · exact h.sv hok
  · exact ⟨some ⟨g, 0, none⟩, bs.length, h1, Nat.le_refl _, by simp, fun k hk => ⟨_, rfl, h3, by rw [add_own]; exact h4 k hk⟩, hok⟩
theorem run_appM (t : TypeId) (ty : TypeId) (ht : Tryd.prog.underlying t = some (.slice 5)) (w : World) (B N : Nat) (v xv : Value) (bs cs : List Int) (hown : OwM w B v bs) (hx : Sv N w xv cs) (hc : 0 < cs.length) (hl : bs.length + cs.length ≤ 10000000) (hbase : B ≤ w.heap.size) :
    ∃ v' w', (Builtin.append_ #[t, t] ty #[v, xv]).run Tryd.prog w = .ok v' w' ∧ Own w' B v' (bs ++ cs) ∧ w.grownBy w' v.ownBlock := by
  rcases hown with h | ⟨h0, g, h1, h2, h3, h4⟩
  · obtain ⟨v', w', r1, r2, r3, -⟩ := run_app8 t ty ht w B N v xv bs cs h hx hl hbase
    exact ⟨v', w', r1, r2, r3⟩
  · obtain ⟨i0, hi, hz0, hz1, hz2⟩ := info5_parts
    obtain ⟨ao, cap, rfl, k2, k3, k4, k5⟩ := hx
    obtain ⟨ad, rfl, -⟩ := k4 0 hc
    subst h1
    obtain ⟨v', w', r1, r2, r3⟩ := run_append_arg_grows (P := Tryd.prog) w t ty 5 i0 (.int .u8 0) 1 1 ht hi hz0 hz1 hz2 rfl (by decide) ⟨g, 0, none⟩ bs.length bs.length (U bs) (by rw [U_len]; omega) (fun j u hu => by
      rw [U_get] at hu
      by_cases hj : j < bs.length
      · rw [getD_at _ _ hj] at hu
        rw [add_own, h4 j hj, ← hu]; rfl
      · rw [List.getElem?_eq_none (by omega)] at hu; cases hu) ad cs.length cap (U cs) (by rw [U_len]; omega) k4.news (by omega) (by unfold maxLen; omega) (by omega)
    refine ⟨v', w', r1, ?_, ⟨r3.os, r3.tape, r3.output, r3.size, fun k hk _ => r3.block k hk (by simp)⟩⟩
    have r4 : Own w' w.heap.size v' (bs ++ cs) := by
      show World.ownsRow _ _ _ _ _ _ _
      rw [U_app, List.length_append]
      exact r2
    exact r4.mono hbase
theorem wpList_appM {w : World} {ops : Array Oper} {rest : List Oper} {o : Oper} {a : Act} {Q : Exit → Act → World → Prop} (hgd : o.guard = none) (s x : Operand) (t : TypeId)
    (ho : o.op = .call { callee := .builtin .append, args := #[s, x], argTypes := #[t, t] }) (ht : Tryd.prog.underlying t = some (.slice 5))
    (B N : Nat) (v xv : Value) (bs cs : List Int) (hs : a.eval s = v) (hx : a.eval x = xv) (hown : OwM w B v bs) (hxv : Sv N w xv cs) (hc : 0 < cs.length) (hl : bs.length + cs.length ≤ 10000000) (hbase : B ≤ w.heap.size)
    (h : ∀ v' w', Own w' B v' (bs ++ cs) → w.grownBy w' v.ownBlock → wpList Tryd.prog ops Q rest (a.put o.dst v') w') : wpList Tryd.prog ops Q (o :: rest) a w := by
  refine wpList_plain hgd fun _ hK => ?_
  obtain ⟨v', w', hr, h2, h3⟩ := run_appM t o.type ht w B N v xv bs cs hown hxv hc hl hbase
  unfold Oper.wp execOp
  simp only [ho, resolve, invoke, builtin, Sem.run_bind, Sem.run_pure, Result.andThen_ok, List.map_toArray, List.map_cons, List.map_nil, hs, hx, hr]
  exact hK _ _ (h v' w' h2 h3)
theorem conv_q (w : World) (ad : Addr) (cap : Nat) (b : List UInt8) (h : ∀ k (hk : k < b.length), w.cell? (ad.add k) = some (.int .u8 (b[k].toNat : Int))) : (convert 62 9 (.slice (some ad) b.length cap)).run Tryd.prog w = .ok (.string (tx b)) w := by
  have hl : (loadCells ad (ib b).length).run Tryd.prog w = .ok ((ib b).map (Value.int .u8)).toArray w := by
    have := run_loadCells_list (P := Tryd.prog) w ad ((ib b).map (Value.int .u8)) (fun j v hj => by
      rw [List.getElem?_map] at hj
      by_cases hk : j < b.length
      · rw [h j hk]
        have : (ib b)[j]? = some (b[j].toNat : Int) := by unfold ib; rw [List.getElem?_map, List.getElem?_eq_getElem hk]; rfl
        rw [this] at hj
        exact hj
      · rw [List.getElem?_eq_none (by rw [ib_len]; omega)] at hj; cases hj)
    simpa using this
  have hlb : (ib b).length = b.length := ib_len b
  rw [← hlb]
  rw [run_convert_bytes_string w 62 9 5 _ (ib b).length cap Tryd.underlying62 Tryd.underlying5 Tryd.underlying9, run_bytesToString w _ (ib b).length cap (ib b) hl, foldl_push_bytes]
  have e : (ib b).map (fun x => UInt8.ofNat x.toNat) = b := by
    unfold ib
    rw [List.map_map]
    conv => rhs; rw [← List.map_id b]
    apply List.map_congr_left
    intro c _
    simp
  rw [e]
  congr 2
  unfold tx
  congr 1
  rw [show ByteArray.empty.data = #[] from rfl]
  simp
theorem strCells_q (s : ByteArray) : Lib.strCells s = U (ib s.data.toList) := by
  unfold Lib.strCells U ib
  rw [List.map_map]
  rfl
/-- a text is appended to bytes -/
theorem wpList_appsq {w : World} {ops : Array Oper} {rest : List Oper} {o : Oper} {a : Act} {Q : Exit → Act → World → Prop} (hgd : o.guard = none) (s x : Operand) (t : TypeId)
    (ho : o.op = .call { callee := .builtin .append, args := #[s, x], argTypes := #[t, 9] }) (ht : Tryd.prog.underlying t = some (.slice 5))
    (B : Nat) (v : Value) (bs : List Int) (str : ByteArray) (hs : a.eval s = v) (hx : a.eval x = .string str) (hown : Own w B v bs) (hl : bs.length + str.size ≤ 10000000) (hbase : B ≤ w.heap.size)
    (h : ∀ v' w', Own w' B v' (bs ++ ib str.data.toList) → w.grownBy w' v.ownBlock → wpList Tryd.prog ops Q rest (a.put o.dst v') w') : wpList Tryd.prog ops Q (o :: rest) a w := by
  obtain ⟨i0, hi, hz0, hz1, hz2⟩ := info5_parts
  refine Lib.wpList_append_own_string w hgd s x t 9 ho B 5 i0 ht Tryd.underlying9 hi hz0 hz1 hz2 v bs.length (U bs) hs hown str hx (by unfold maxLen; omega) (by omega) hbase (fun v' w' a1 a2 _ => h v' w' ?_ a2)
  show World.ownsRow _ _ _ _ _ _ _
  rw [U_app, List.length_append, ib_len, ← strCells_q]
  have : str.data.toList.length = str.size := by simp
  rw [this]
  exact a1
/-- a byte in a new block -/
theorem Sv.one (w : World) (x : Int) (h0 : 0 ≤ x) (h1 : x < 256) : Sv (w.heap.size + 1) (w.alloc (.cells #[.int .u8 x] 5)) (.slice (some ⟨w.heap.size, 0, none⟩) 1 1) [x] := by
  refine ⟨_, _, rfl, Nat.le_refl _, by simp, fun k hk => ⟨_, rfl, by simp, ?_⟩, fun b hb => by simp at hb; omega⟩
  have : k = 0 := by simp at hk; omega
  subst this
  rw [add_own, World.cell?_alloc_new]
  rfl
set_option maxHeartbeats 1000000 in
theorem appD_any (k : Nat) : ∀ (n : Int) (B : Nat) (v : Value) (bs : List Int) (w : World), 0 ≤ n → n ≤ 1000000000 → OwM w B v bs → B ≤ w.heap.size → bs.length + k ≤ 1000 → k ≤ 10 →
    Calls Tryd.prog 25 #[v, .int .i64 n, .int .i64 (k : Int)] w fun e w' => ∃ v', e = .returned v' ∧ Hid (OwM w' B v' (bs ++ ib (dg k n)) ∧ Below B w w' ∧ (0 < k → Own w' B v' (bs ++ ib (dg k n)))) := by
  induction k with
  | zero =>
    intro n B v bs w n0 n1 h hB hl hk
    have HR : Hid (OwM w B v (bs ++ ib (dg 0 n))) := by show OwM _ _ _ _; simpa [dg, ib] using h
    clear h hl hk
    go_enter Tryd.func25, Tryd.ntmps25
    go_wp2
    go_ret
    exact ⟨_, rfl, HR.out, Below.refl _ _, fun h => absurd h (by omega)⟩
  | succ k ih =>
    intro n B v bs w n0 n1 h hB hl hk
    have HI : Hid (Calls Tryd.prog 25 #[v, .int .i64 (n / 10), .int .i64 (k : Int)] w fun e w' => ∃ v', e = .returned v' ∧ Hid (OwM w' B v' (bs ++ ib (dg k (n / 10))) ∧ Below B w w' ∧ (0 < k → Own w' B v' (bs ++ ib (dg k (n / 10)))))) := ih (n / 10) B v bs w (by omega) (by omega) h hB (by omega) (by omega)
    have HX : Hid (B ≤ w.heap.size ∧ bs.length + k + 1 ≤ 1000) := ⟨hB, by omega⟩
    have hki : (k : Int) ≤ 10 := by omega
    have hk0 : (((k + 1 : Nat) : Int) == 0) = false := by rw [beq_eq_false_iff_ne]; omega
    clear h hB hl hk ih
    go_enter Tryd.func25, Tryd.ntmps25
    go_wp2_with fail
    refine HI.out.mono ?_
    rintro e w1 ⟨v1, rfl, H1⟩
    have hlen : bs.length + k ≤ 999 := by have := HX.out.2; omega
    have hdl : (bs ++ ib (dg k (n / 10))).length = bs.length + k := by rw [List.length_append, ib_len, dg_len]
    have HS : Hid (Sv (w1.heap.size + 1) (w1.alloc (.cells #[.int .u8 (48 + n % 10)] 5)) (.slice (some ⟨w1.heap.size, 0, none⟩) 1 1) [48 + n % 10]) := Sv.one w1 (48 + n % 10) (by omega) (by omega)
    have HE : Hid (bs ++ ib (dg k (n / 10)) ++ [48 + n % 10] = bs ++ ib (dg (k + 1) n)) := by
      show _ = _
      rw [dg, ib_app, List.append_assoc]
      congr 2
      unfold ib
      rw [List.map_cons, List.map_nil, dg_digit]
      congr 1
      omega
    have HL : Hid ((bs ++ ib (dg k (n / 10))).length + [48 + n % 10].length ≤ 10000000) := by show _ ≤ _; rw [hdl]; simp; omega
    clear hlen hdl HI
    go_wp2_with (at_builtin; refine wpList_appM (by rfl) _ _ 62 (by rfl) Tryd.underlying62 B (w1.heap.size + 1) v1 _ (bs ++ ib (dg k (n / 10))) [48 + n % 10] (by rfl) (by rfl) (H1.out.1.alloc _) HS.out (by simp) HL.out (by have := H1.out.2.1.size; have := HX.out.1; simp; omega) ?_; intro v2 w2 ho2 hg2)
    have HF : Hid (OwM w2 B v2 (bs ++ ib (dg (k + 1) n)) ∧ Below B w w2 ∧ (0 < k + 1 → Own w2 B v2 (bs ++ ib (dg (k + 1) n)))) := by
      rw [HE.out] at ho2
      exact ⟨.inl ho2, (H1.out.2.1.alloc (Nat.le_trans HX.out.1 H1.out.2.1.size) _).grown hg2 (by have := H1.out.2.1.size; have := HX.out.1; simp; omega) (H1.out.1.lt), fun _ => ho2⟩
    clear ho2 hg2
    go_wp2
    go_ret
    exact ⟨v2, rfl, HF⟩
end Go.Proofs.YthoilihokbakoaaDoor
