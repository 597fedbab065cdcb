/- Auth: a cipher made (AES). -/
import Derived.Test.YtocimfhagkcnlaaDoorAL
namespace Go.Proofs.YtocimfhagkcnlaaDoor
open Go Go.RowKit Go.Sort
set_option linter.unusedVariables false
theorem fold_put (l : List Value) (k : Nat) (Z : Array Value) (h : k + l.length ≤ Z.size) :
    (l.zipIdx k).foldl (fun cs (x : Value × Nat) => cs.setIfInBounds x.2 x.1) Z = (Z.toList.take k ++ l ++ Z.toList.drop (k + l.length)).toArray := by
  induction l generalizing k Z with
  | nil => simp
  | cons c t ih =>
    rw [List.length_cons] at h
    rw [List.zipIdx_cons, List.foldl_cons, ih (k + 1) _ (by simp; omega)]
    have e : (Z.setIfInBounds k c).toList = Z.toList.set k c := by simp
    rw [e, List.length_cons]
    have hk : k < Z.toList.length := by simp; omega
    have e1 : (Z.toList.set k c).take (k + 1) = Z.toList.take k ++ [c] := by
      rw [List.take_set, List.take_add_one, List.getElem?_eq_getElem hk, List.set_append_right _ _ (by simp; omega)]
      have hk2 : k < Z.size := by simpa using hk
      simp
      rw [show k - min k Z.size = 0 by omega]
      rfl
    have e2 : (Z.toList.set k c).drop (k + 1 + t.length) = Z.toList.drop (k + (t.length + 1)) := by
      rw [List.drop_set_of_lt (by omega), show k + 1 + t.length = k + (t.length + 1) by omega]
    rw [e1, e2]
    simp
theorem run_buildC (l : List Int) (hl : l.length = 256) (w : World) : (Instr.build 93 #[(0, .agg (by' l).toArray)]).run Tryd.prog w = .ok (.agg (by' (l ++ List.replicate 176 0)).toArray) w := by
  have hz : (zeroValue 93).run Tryd.prog w = .ok (.agg (List.replicate 432 (Value.int .u8 0)).toArray) w := by kernel_rfl
  have hc : (by' l).length = 256 := by rw [by_len, hl]
  obtain ⟨Z, hZ⟩ : ∃ Z, Z = (List.replicate 432 (Value.int .u8 0)).toArray := ⟨_, rfl⟩
  rw [← hZ] at hz
  have HZ : Hid (Z = (List.replicate 432 (Value.int .u8 0)).toArray) := hZ
  have hzs : Z.size = 432 := by rw [hZ, List.size_toArray, List.length_replicate]
  obtain ⟨A, hA⟩ : ∃ A, A = by' l := ⟨_, rfl⟩
  rw [← hA]
  rw [← hA] at hc
  have HA : Hid (A = by' l) := hA
  clear hZ hA
  have hu : Tryd.prog.underlying 93 = some _ := Tryd.underlying93
  have hs1 : ∀ u, (sizeOf 89).run Tryd.prog u = .ok 256 u := fun u => by kernel_rfl
  have hs2 : ∀ u, (sizeOf 91).run Tryd.prog u = .ok 176 u := fun u => by kernel_rfl
  obtain ⟨R0, hR0⟩ : ∃ r, r = List.replicate 176 (0 : Int) := ⟨_, rfl⟩
  rw [← hR0]
  have HR0 : Hid (R0 = List.replicate 176 0) := hR0
  clear hR0
  unfold Instr.build
  simp only [Sem.run_bind, hz]
  go_simp
  have f := fold_put A 0 Z (by omega)
  have e : Z.toList.take 0 ++ A ++ Z.toList.drop (0 + A.length) = by' (l ++ R0) := by
    rw [hc, HZ.out, List.take_zero, Nat.zero_add, List.nil_append, List.drop_replicate, HA.out]
    unfold by'
    rw [List.map_append, HR0.out, List.map_replicate]
  rw [e] at f
  exact f
theorem by_one' (xs : List Int) : ∀ u ∈ by' xs, u.oneCell' = true := by
  intro u hu
  unfold by' at hu
  obtain ⟨x, _, rfl⟩ := List.mem_map.1 hu
  rfl
theorem subT8 : ∀ x ∈ subT, U8 x := mkS_ok 255
theorem run_stin {w : World} {p : Nat} {T : TypeId} {cs : List Value} (h : Bk p w cs.toArray T) (e : TypeId) (o : Nat) (r : List Value) (hi : (Tryd.prog.info? e).map (·.size) = some r.length) (hle : o + r.length ≤ cs.length) (h1 : ∀ u ∈ r, u.oneCell' = true) :
    (storeVar e ⟨p, o, none⟩ (.agg r.toArray)).run Tryd.prog w = .ok () (w.setRow p (cs.take o ++ r ++ cs.drop (o + r.length)).toArray) := by
  have hst := run_storeCells_at (P := Tryd.prog) p o T r 0 cs.toArray w h (by simpa using hle) h1
  rw [Nat.add_zero] at hst
  cases hq : Tryd.prog.info? e with
  | none => simp [hq] at hi
  | some ii =>
    have hs : ii.size = r.length := by simpa [hq] using hi
    simp [storeVar, sizeOf, typeInfo, hq, Value.cells, hs]
    simpa using hst
theorem wp_stin {o : Oper} {a : Act} {w : World} {K : Act → World → Prop} {Q : Exit → Act → World → Prop} (e : TypeId) (x y : Operand) (ho : o.op = .store e x y)
    {p : Nat} {T : TypeId} {cs : List Value} (h : Bk p w cs.toArray T) (i : Nat) (r : List Value) (hx : a.eval x = .pointer (some ⟨p, i, none⟩)) (hy : a.eval y = .agg r.toArray) (hi : (Tryd.prog.info? e).map (·.size) = some r.length) (hle : i + r.length ≤ cs.length) (h1 : ∀ u ∈ r, u.oneCell' = true)
    (hK : K (a.put o.dst undef) (w.setRow p (cs.take i ++ r ++ cs.drop (i + r.length)).toArray)) : o.wp Tryd.prog a w K Q := by
  unfold Oper.wp execOp
  simp only [ho, hx, hy, Instr.storeAt, Instr.sureAddr, Sem.run_bind, Sem.run_pure, Result.andThen_ok, run_stin h e i r hi hle h1]
  exact hK
theorem step_bdL {ops : Array Oper} {rest : List Oper} {o : Oper} {a : Act} {w : World} {Q : Exit → Act → World → Prop} (hw : Region.wanted o (yielded ops a.tmps) = true) (ty : TypeId) (ps : List (Nat × Operand)) (ho : o.op = .build ty ps.toArray) (vs : List (Nat × Value)) (hv : (ps.map fun p => (p.1, a.eval p.2)) = vs) (v : Value)
    (hrun : (Instr.build ty vs.toArray).run Tryd.prog w = .ok v w)
    (h : wpList Tryd.prog ops Q rest (a.put o.dst v) w) : wpList Tryd.prog ops Q (o :: rest) a w :=
  wpList_step fun K hK => by
    rw [if_pos hw]
    unfold Oper.wp execOp
    have e : (ps.toArray.map fun (p : Nat × Operand) => (p.1, a.eval p.2)) = vs.toArray := by rw [List.map_toArray, hv]
    simp only [ho, e, Sem.run_bind, Sem.run_pure, hrun, Result.andThen_ok]
    exact hK _ _ h
theorem wpOp_stinL {ops : Array Oper} {Q : Exit → Act → World → Prop} {i0 : Nat} {K : Act → World → Prop} {a : Act} {w : World} (o : Oper) (ho : ops[i0]? = some o) (hgd : o.guard = none) (e : TypeId) (x y : Operand) (hop : o.op = .store e x y)
    {p : Nat} {T : TypeId} {cs : List Value} (h : Bk p w cs.toArray T) (i : Nat) (r : List Value) (hx : a.eval x = .pointer (some ⟨p, i, none⟩)) (hy : a.eval y = .agg r.toArray) (hi : (Tryd.prog.info? e).map (·.size) = some r.length) (hle : i + r.length ≤ cs.length) (h1 : ∀ u ∈ r, u.oneCell' = true)
    (hK : ∀ w', Bk p w' (cs.take i ++ r ++ cs.drop (i + r.length)).toArray T → w.grownBy w' (some p) → w'.heap.size = w.heap.size → K (a.put o.dst undef) w') : wpOp Tryd.prog ops Q i0 K a w := by
  unfold wpOp
  rw [ho]
  have hw : Region.wanted o (yielded ops a.tmps) = true := by simp [Region.wanted, hgd]
  simp only [hw, if_true]
  exact .inl (wp_stin e x y hop h i r hx hy hi hle h1 (hK _ (h.row _) (grownBy_row _ _ _) (by simp [World.setRow])))
/-- a key put into the cipher's cells -/
def putK (L : List Int) (k : Nat) (r : List Int) : List Int := L.take (256 + k * 16) ++ r ++ L.drop (256 + k * 16 + 16)
theorem putK_len {L r : List Int} {k : Nat} (hL : L.length = 432) (hk : k < 11) (hr : r.length = 16) : (putK L k r).length = 432 := by
  unfold putK
  rw [List.length_append, List.length_append, List.length_take, List.length_drop, hr, hL]
  omega
theorem putK8 {L r : List Int} {k : Nat} (hL : ∀ x ∈ L, U8 x) (hr : ∀ x ∈ r, U8 x) : ∀ x ∈ putK L k r, U8 x := fun x hx => by
  unfold putK at hx
  rcases List.mem_append.1 hx with h | h
  · rcases List.mem_append.1 h with h | h
    · exact hL x (List.mem_of_mem_take h)
    · exact hr x h
  · exact hL x (List.mem_of_mem_drop h)
theorem putK_by {L r : List Int} {k : Nat} (hr : r.length = 16) : (by' L).take (256 + k * 16) ++ by' r ++ (by' L).drop (256 + k * 16 + (by' r).length) = by' (putK L k r) := by
  rw [by_len, hr]
  unfold putK by'
  rw [List.map_append, List.map_append, List.map_take, List.map_drop]
def ciP : Nat → Int
  | 0 => 1
  | n + 1 => tw (ciP n)
theorem ciP8 (n : Nat) : U8 (ciP n) := by
  induction n with
  | zero => exact ⟨by decide, by decide⟩
  | succ n ih => rw [ciP]; exact tw8 ih
def ciL (key : List Int) : Nat → List Int
  | 0 => putK (subT ++ List.replicate 176 0) 0 key
  | n + 1 => putK (ciL key n) (n + 1) (kyC (ciL key n) (kyK (ciL key n) n) (ciP n) 12)
theorem subT_len : subT.length = 256 := mkS_len 255
theorem ciL_ok {key : List Int} (hk : key.length = 16) (h8 : ∀ x ∈ key, U8 x) (n : Nat) (hn : n < 11) : (ciL key n).length = 432 ∧ ∀ x ∈ ciL key n, U8 x := by
  induction n with
  | zero => exact ⟨putK_len (by rw [List.length_append, subT_len, List.length_replicate]) hn hk, putK8 (fun x hx => by
      rcases List.mem_append.1 hx with h | h
      · exact subT8 x h
      · exact rep8 176 x h) h8⟩
  | succ n ih =>
    have i := ih (by omega)
    exact ⟨putK_len i.1 hn (by rw [kyC_len, kyK_len]), putK8 i.2 (kyC8 i.2 (kyK8 i.2 n) (ciP8 n) 12)⟩
set_option maxRecDepth 20000 in
set_option maxHeartbeats 4000000 in
theorem newCipher_any (b : List Int) (hb : b.length = 16) (hb8 : ∀ x ∈ b, U8 x) (w : World) :
    Calls Tryd.prog 34 #[.agg (by' b).toArray] w fun e w' => ∃ c, e = .returned (.pointer (some ⟨c, 0, none⟩)) ∧ w.heap.size ≤ c ∧ Cq w' c (ciL b 10) ∧ Below w.heap.size w w' := by
  have HL : Hid (b.length = 16 ∧ ∀ x ∈ b, U8 x) := ⟨hb, hb8⟩
  clear hb hb8
  obtain ⟨A, hA⟩ : ∃ A, (by' b).toArray = A := ⟨_, rfl⟩
  have HA : Hid ((by' b).toArray = A) := hA
  rw [hA]
  clear hA
  go_enter Tryd.func34, Tryd.ntmps34
  refine post_hid fun Q hQ => ?_
  refine seq_hid fun R0 hR0 => ?_
  go_wp2_with fail
  refine world_hid fun W0 hW0 => ?_
  have K0 : Hid (Bk w.heap.size W0 A 59 ∧ Below w.heap.size w W0) := by
    rw [hW0.out]
    exact ⟨Bk.new w _ _, (Below.refl _ _).alloc (Nat.le_refl _) _⟩
  rw [hR0.out]
  clear hW0 hR0
  refine seq_hid fun R1 hR1 => ?_
  go_wp2_with fail
  refine (makeSubs_any W0).mono ?_
  rintro _ w1 ⟨rfl, hb1⟩
  obtain ⟨L0, hL0⟩ : ∃ l, l = subT ++ List.replicate 176 0 := ⟨_, rfl⟩
  have HL0 : Hid (L0 = subT ++ List.replicate 176 0 ∧ L0.length = 432) := ⟨hL0, by rw [hL0, List.length_append, subT_len, List.length_replicate]⟩
  have HBD : Hid ((Instr.build 93 #[(0, .agg (by' subT).toArray)]).run Tryd.prog w1 = .ok (.agg (by' L0).toArray) w1) := by show _ = _; rw [hL0]; exact run_buildC subT subT_len w1
  have K1 : Hid (Bk w.heap.size w1 A 59 ∧ Below w.heap.size w w1 ∧ w.heap.size < w1.heap.size) := by
    have h1 : Bk w.heap.size w1 A 59 := K0.out.1.kept (hb1.block _ K0.out.1.lt)
    exact ⟨h1, K0.out.2.trans (hb1.mono K0.out.2.size), h1.lt⟩
  obtain ⟨ST, hST⟩ : ∃ l, l = (by' subT).toArray := ⟨_, rfl⟩
  rw [← hST]
  rw [← hST] at HBD
  clear hb1 K0 hL0 hST
  go_wp2_with (refine step_bdL (by rfl) 93 [(0, .tmp 6)] rfl [(0, .agg ST)] (by rfl) (.agg (by' L0).toArray) HBD.out ?_)
  clear HBD
  obtain ⟨c, hc⟩ : ∃ c, c = w1.heap.size := ⟨_, rfl⟩
  rw [← hc]
  refine world_hid fun W1 hW1 => ?_
  have K2 : Hid (Bk w.heap.size W1 A 59 ∧ Bk c W1 (by' L0).toArray 93 ∧ Below w.heap.size w W1 ∧ w.heap.size < c) := by
    show _ ∧ _ ∧ _ ∧ _
    rw [hW1.out, hc]
    exact ⟨bk_alloc K1.out.1 _, Bk.new w1 _ _, K1.out.2.1.alloc (Nat.le_of_lt K1.out.2.2) _, K1.out.2.2⟩
  rw [hR1.out]
  clear hR1 hW1 hc K1
  refine seq_hid fun R2 hR2 => ?_
  have HC1 : Hid (∀ w', (∃ q : Regrown, w' = grow (redrawn W1 q.d) q.os) → ∀ j u, (by' b)[j]? = some u → w'.cell? ((⟨w.heap.size, 0, none⟩ : Addr).add j) = some u) := by
    rintro _ ⟨q, rfl⟩ j u hu
    refine cell_regrown ?_ _ _
    rw [add_own, K2.out.1.cell, ← HA.out, List.getElem?_toArray]
    exact hu
  have IB : Hid ((Tryd.prog.info? 59).map (·.size) = some (by' b).length) := info16 HL.out.1
  go_wp2_with fail
  refine wp_region_last_belowT (by kernel_rfl) (by kernel_rfl) (by rfl) (by kernel_rfl) ?_
  simp only [idleLast, idle]
  repeat (first | (refine quiet_ld6 (by rfl) 59 _ rfl ⟨w.heap.size, 0, none⟩ (by rfl) (by' b) _ Tryd.underlying59 rfl IB.out HC1.out ?_) | (quiet_step (fail)))
  refine wpQuiet_nil ?_
  intro _ hw'
  obtain ⟨⟨dq, osq⟩, hw''⟩ := hw'
  subst hw''
  have BG := below_regrown W1 dq osq
  have KB : Hid (Bk c (grow (redrawn W1 dq) osq) (by' L0).toArray 93) := K2.out.2.1.kept (BG.block _ K2.out.2.1.lt)
  refine wpOp_stinL (cs := by' L0) _ (by rfl) rfl 59 _ _ rfl KB.out 256 (by' b) (by rfl) (by rfl) IB.out (by rw [by_len, by_len, HL0.out.2, HL.out.1]; decide) (by_one' b) ?_
  intro W2 hp hg hz
  have K3 : Hid (Cq W2 c (ciL b 0) ∧ Below w.heap.size w W2 ∧ w.heap.size < c) := by
    have o := ciL_ok HL.out.1 HL.out.2 0 (by omega)
    have e : (by' L0).take 256 ++ by' b ++ (by' L0).drop (256 + (by' b).length) = by' (ciL b 0) := by
      rw [ciL, ← HL0.out.1]
      exact putK_by (k := 0) HL.out.1
    rw [e] at hp
    exact ⟨⟨hp, o.1, o.2⟩, (K2.out.2.2.1.trans (BG.mono K2.out.2.2.1.size)).grown hg (Nat.le_trans K2.out.2.2.1.size BG.size) (fun q e => by injection e with e; have := K2.out.2.2.2; omega), K2.out.2.2.2⟩
  clear hp hg hz BG KB K2 HC1 IB
  go_wp2_with fail
  rw [hR2.out]
  clear hR2
  refine seq_hid fun R3 hR3 => ?_
  go_wp2_with fail
  rw [hR3.out]
  clear hR3
  refine seq_hid fun R4 hR4 => ?_
  go_wp2_with fail
  go_loopw [4, 5] (fun pv i wr => ∃ (k : Nat) (P KI : Int), pv = .int .u8 P ∧ i = .int .i64 KI ∧ 1 ≤ KI ∧ KI ≤ 11 ∧ Hid (KI = 1 + (k : Int) ∧ P = ciP k ∧ Cq wr c (ciL b k) ∧ Below w.heap.size w wr)) (fun _ i _ => (11 - intOf i).toNat)
  case atStart => exact ⟨0, 1, 1, rfl, rfl, by omega, by omega, rfl, rfl, K3.out.1, K3.out.2.1⟩
  case round =>
    have HLT : Hid (w.heap.size < c) := K3.out.2.2
    clear K3
    obtain ⟨k, P, KI, rfl, rfl, k0, k1, hK⟩ := hrel
    by_cases hlt : KI ≤ 10
    · obtain ⟨l, hl⟩ : ∃ l, l = ciL b k := ⟨_, rfl⟩
      have hk10 : k < 10 := by have := hK.out.1; omega
      have SX : Hid (Cq wr c l ∧ Below w.heap.size w wr ∧ k < 10 ∧ KI = 1 + (k : Int)) := ⟨by rw [hl]; exact hK.out.2.2.1, hK.out.2.2.2, hk10, hK.out.1⟩
      obtain ⟨r, hr⟩ : ∃ r, r = kyC l (kyK l k) P 12 := ⟨_, rfl⟩
      have HR : Hid (r = kyC l (kyK l k) P 12 ∧ r.length = 16 ∧ ciL b (k + 1) = putK l (k + 1) r ∧ P = ciP k) := ⟨hr, by rw [hr, kyC_len, kyK_len], by rw [hr, hl, hK.out.2.1]; rfl, hK.out.2.1⟩
      obtain ⟨O1, hO1⟩ : ∃ o : Nat, o = 256 + k * 16 := ⟨_, rfl⟩
      obtain ⟨O2, hO2⟩ : ∃ o : Nat, o = 256 + (k + 1) * 16 := ⟨_, rfl⟩
      have HO : Hid (O1 = 256 + k * 16 ∧ O2 = 256 + (k + 1) * 16) := ⟨hO1, hO2⟩
      obtain ⟨I1, hI1⟩ : ∃ x : Int, x = KI - 1 := ⟨_, rfl⟩
      have e1 : IntKind.i64.wrap (KI - 1) = I1 := by rw [hI1, IntKind.wrap_i64]; omega
      have hx1 : ∀ u, Sem.run Tryd.prog (Instr.indexAt 91 (.pointer (some ⟨c, 256, none⟩)) (.int .i64 I1)) u = .ok (.pointer (some ⟨c, O1, none⟩)) u := fun u => by
        rw [HO.out.1, show I1 = ((k : Nat) : Int) by have := hK.out.1; omega]
        exact aidxK Tryd.underlying91 _ _ k (by omega) u
      have hx2 : ∀ u, Sem.run Tryd.prog (Instr.indexAt 91 (.pointer (some ⟨c, 256, none⟩)) (.int .i64 KI)) u = .ok (.pointer (some ⟨c, O2, none⟩)) u := fun u => by
        rw [HO.out.2, show KI = ((k + 1 : Nat) : Int) by have := hK.out.1; omega]
        exact aidxK Tryd.underlying91 _ _ (k + 1) (by omega) u
      have HC2 : Hid (∀ w', (∃ q : Regrown, w' = grow (redrawn wr q.d) q.os) → ∀ j u, (by' (kyK l k))[j]? = some u → w'.cell? ((⟨c, O1, none⟩ : Addr).add j) = some u) := by
        rintro _ ⟨q, rfl⟩ j u hu
        refine cell_regrown ?_ _ _
        rw [HO.out.1]
        exact kyK_cell SX.out.1 k (by have := SX.out.2.2.1; omega) j u hu
      have HKB : Hid (∀ d os, Calls Tryd.prog 60 #[.pointer (some ⟨c, 0, none⟩), .agg (by' (kyK l k)).toArray, .int .u8 P] (grow (redrawn wr d) os) fun e w'' => e = .returned (.agg (by' r).toArray) ∧ ∃ p : Regrown, w'' = grow (redrawn wr p.d) p.os) := fun d os =>
        Calls.regrown_of (by rw [HR.out.1]; exact keyBehind_any c l (kyK l k) P (kyK_len l k) (kyK8 SX.out.1.2.2 k) _ ⟨SX.out.1.1.kept ((below_regrown wr d os).block _ SX.out.1.1.lt), SX.out.1.2.1, SX.out.1.2.2⟩)
      have IK : Hid ((Tryd.prog.info? 59).map (·.size) = some (by' (kyK l k)).length) := info16 (kyK_len l k)
      have IR : Hid ((Tryd.prog.info? 59).map (·.size) = some (by' r).length) := info16 HR.out.2.1
      clear hK hl hr hO1 hO2 hI1 hk10
      go_wp2_with fail
      refine wp_region_last_belowT (by kernel_rfl) (by kernel_rfl) (by rfl) (by kernel_rfl) ?_
      simp only [idleLast, idle]
      repeat (first | (refine quiet_ld6 (by rfl) 59 _ rfl ⟨c, O1, none⟩ (by rfl) (by' (kyK l k)) _ Tryd.underlying59 rfl IK.out HC2.out ?_) | (quiet_step (exact HKB.out _ _)))
      refine wpQuiet_nil ?_
      intro _ hw'
      obtain ⟨⟨dq, osq⟩, hw''⟩ := hw'
      subst hw''
      have BG := below_regrown wr dq osq
      have KB : Hid (Bk c (grow (redrawn wr dq) osq) (by' l).toArray 93) := SX.out.1.1.kept (BG.block _ SX.out.1.1.lt)
      refine wpOp_stinL (cs := by' l) _ (by rfl) rfl 59 _ _ rfl KB.out O2 (by' r) (by rfl) (by rfl) IR.out (by rw [by_len, by_len, SX.out.1.2.1, HR.out.2.1]; have := HO.out.2; have := SX.out.2.2.1; omega) (by_one' r) ?_
      intro W2 hp hg hz
      have K3 : Hid (Cq W2 c (ciL b (k + 1)) ∧ Below w.heap.size w W2) := by
        have o := ciL_ok HL.out.1 HL.out.2 (k + 1) (by have := SX.out.2.2.1; omega)
        rw [HO.out.2, putK_by (k := k + 1) HR.out.2.1, ← HR.out.2.2.1] at hp
        exact ⟨⟨hp, o.1, o.2⟩, (SX.out.2.1.trans (BG.mono SX.out.2.1.size)).grown hg (Nat.le_trans SX.out.2.1.size BG.size) (fun q e => by injection e with e; have := HLT.out; omega)⟩
      clear hp hg hz BG KB HC2 HKB IK IR
      go_wp2_with fail
      refine (twice_any P W2).mono ?_
      rintro _ w9 ⟨rfl, hw9⟩
      rw [hw9]
      clear hw9
      go_wp2_with fail
      exact ⟨⟨k + 1, tw P, KI + 1, rfl, rfl, by omega, by omega, by have := SX.out.2.2.2; omega, by rw [ciP, ← HR.out.2.2.2], K3.out.1, K3.out.2⟩, by simp [intOf]; omega⟩
    · have KE : Hid (Cq wr c (ciL b 10) ∧ Below w.heap.size w wr) := by
        have e : k = 10 := by have := hK.out.1; omega
        have := hK.out.2.2
        rw [e] at this
        exact this
      clear hK
      go_wp2_with fail
      rw [hR4.out]
      clear hR4
      go_wp2_with fail
      rw [hQ.out]
      go_ret
      exact ⟨c, rfl, Nat.le_of_lt HLT.out, KE.out.1, KE.out.2⟩
end Go.Proofs.YtocimfhagkcnlaaDoor
