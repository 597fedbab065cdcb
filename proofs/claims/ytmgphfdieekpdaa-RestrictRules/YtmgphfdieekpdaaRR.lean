/- New, Heard, Find of a memory. -/
import Derived.Test.YtmgphfdieekpdaaRP
import Derived.Test.YtmgphfdieekpdaaRQ
namespace Go.Proofs.Ytmgphfdieekpdaa
open Go Go.RowKit
/-- 2 to the average -/
def coS (a : Int) : Int := 2 ^ a.toNat
theorem coS_bd (a : Int) (h0 : 0 ≤ a) (h1 : a ≤ 10) : 1 ≤ coS a ∧ coS a ≤ 1024 := by
  obtain ⟨n, rfl⟩ := Int.eq_ofNat_of_zero_le h0
  have h2 : n ≤ 10 := by omega
  unfold coS
  rw [Int.toNat_natCast]
  have h3 : (2 : Nat) ^ n ≤ 2 ^ 10 := Nat.pow_le_pow_right (by decide) h2
  have h4 : 0 < (2 : Nat) ^ n := Nat.pow_pos (by decide)
  have h5 : ((2 : Int) ^ n) = ((2 ^ n : Nat) : Int) := by simp
  omega
set_option maxHeartbeats 1000000 in
theorem new_bad (a b : Int) (w : World) (h : ¬ (0 ≤ a ∧ a ≤ 10 ∧ 0 ≤ b ∧ b ≤ 1024)) : Calls Try.prog 17 #[.int .i64 a, .int .i64 b] w fun e w' => e = .returned (.tuple #[.pointer none, .int .i64 1]) ∧ w' = w := by
  have hc : a < 0 ∨ (0 ≤ a ∧ 10 < a) ∨ (0 ≤ a ∧ a ≤ 10 ∧ b < 0) ∨ (0 ≤ a ∧ a ≤ 10 ∧ 0 ≤ b ∧ 1024 < b) := by omega
  clear h
  rcases hc with h2 | ⟨h2, h3⟩ | ⟨h2, h3, h4⟩ | ⟨h2, h3, h4, h5⟩
  all_goals
    go_enter Try.func17, Try.ntmps17
    go_wp2
    go_ret2
    exact ⟨rfl, rfl⟩
set_option maxHeartbeats 1000000 in
theorem new_ok (a b : Int) (w : World) (h0 : 0 ≤ a) (h1 : a ≤ 10) (h2 : 0 ≤ b) (h3 : b ≤ 1024) : Calls Try.prog 17 #[.int .i64 a, .int .i64 b] w fun e w' => e = .returned (.tuple #[.pointer (some ⟨w.heap.size, 0, none⟩), .int .i64 0]) ∧ w' = w.alloc (.cells #[.int .i64 (coS a), .int .i64 b, .int .i64 (-9223372036854775808), .int .i64 0, .slice none 0 0] 66) := by
  obtain ⟨C, hC⟩ : ∃ C, C = coS a := ⟨_, rfl⟩
  have hb := coS_bd a h0 h1
  rw [← hC] at hb ⊢
  have hC2 : (2 : Int) ^ a.toNat = C := hC.symm
  have hC3 : IntKind.i64.wrap C = C := by rw [IntKind.wrap_i64]; omega
  clear hC
  go_enter Try.func17, Try.ntmps17
  go_wp2
  go_ret2
  exact ⟨rfl, rfl⟩
theorem Mm.fresh (w : World) (cost mn : Int) : Mm (w.alloc (.cells #[.int .i64 cost, .int .i64 mn, .int .i64 (-9223372036854775808), .int .i64 0, .slice none 0 0] 66)) w.heap.size w.heap.size (.slice none 0 0) cost mn (-9223372036854775808) 0 [] :=
  ⟨Bk.new w _ _, OR.nil _ _ _ _, Nat.le_refl _⟩
/-- a cell of the memory is stored -/
theorem Mm.setNow {w : World} {B g : Nat} {sv : Value} {cost mn now turns : Int} {xs : List Sn} (h : Mm w B g sv cost mn now turns xs) (n : Int) : Mm (w.setCell ⟨g, 2, none⟩ (.int .i64 n)) B g sv cost mn n turns xs := by
  refine ⟨?_, h.row.mod (q := g) ⟨rfl, rfl, rfl, by simp, fun k _ hk => Below.heap_setCell _ _ _ _ (by intro e; exact hk (by rw [e]))⟩ h.ne, h.low⟩
  have := h.blk.set (j := 2) (.int .i64 n)
  simpa using this
theorem Mm.setTurns {w : World} {B g : Nat} {sv : Value} {cost mn now turns : Int} {xs : List Sn} (h : Mm w B g sv cost mn now turns xs) (n : Int) : Mm (w.setCell ⟨g, 3, none⟩ (.int .i64 n)) B g sv cost mn now n xs := by
  refine ⟨?_, h.row.mod (q := g) ⟨rfl, rfl, rfl, by simp, fun k _ hk => Below.heap_setCell _ _ _ _ (by intro e; exact hk (by rw [e]))⟩ h.ne, h.low⟩
  have := h.blk.set (j := 3) (.int .i64 n)
  simpa using this
/-- a sender as it may be -/
structure Sok (cost now : Int) (s : Sn) : Prop where
  s0 : 0 ≤ s.score
  s1 : s.score ≤ 8 * cost
  l0 : s.last ≤ now
  l1 : -9223372036854775808 ≤ s.last
  k0 : 0 ≤ s.count
  k1 : s.count ≤ 2147483647
/-- what becomes of the senders, and the verdict -/
def HdR (xs : List Sn) (a cost mn now turns : Int) (lim kod : Bool) (xs' : List Sn) (v : Int) : Prop :=
  ((∀ x ∈ xs, x.addr ≠ a) ∧ xs' = xs ++ [nwS a cost now turns] ∧ v = 0) ∨ ∃ i, ∃ h : i < xs.length, xs[i].addr = a ∧ xs' = xs.set i (haS xs[i] cost mn now turns lim kod) ∧ v = haV xs[i] cost mn now lim kod
def mxI (a b : Int) : Int := if a < b then b else a
set_option maxHeartbeats 2000000 in
theorem heard_few (B g : Nat) (sv : Value) (xs : List Sn) (cost mn now turns a n flags : Int) (lim kod : Bool) (w : World) (hM : Mm w B g sv cost mn now turns xs) (hB : B ≤ w.heap.size) (hlen : xs.length < 32 ∨ (xs.length ≤ 32 ∧ ∃ x ∈ xs, x.addr = a))
    (c0 : 1 ≤ cost) (c1 : cost ≤ 1024) (m0 : 0 ≤ mn) (m1 : mn ≤ 1024) (n0 : -9223372036854775808 ≤ now) (n1 : now ≤ 9223372036854775807) (n2 : n ≤ 9223372036854775807) (t0 : 0 ≤ turns) (t1 : turns ≤ 4611686018427387904) (hok : ∀ x ∈ xs, Sok cost now x)
    (hl : lim = decide (bits BinOp.and IntKind.i64 flags 32 ≠ 0)) (hk : kod = decide (bits BinOp.and IntKind.i64 flags 64 ≠ 0)) :
    Calls Try.prog 19 #[.pointer (some ⟨g, 0, none⟩), .int .u32 a, .int .i64 n, .int .i64 flags] w fun e w' => ∃ sv' xs' v, e = .returned (.int .i64 v) ∧ HdR xs a cost mn (mxI now n) (turns + 1) lim kod xs' v ∧ Mm w' B g sv' cost mn (mxI now n) (turns + 1) xs' ∧ Fm w w' g sv ∧ (∀ k, sv'.ownBlock = some k → sv.ownBlock = some k ∨ w.heap.size ≤ k) := by
  obtain ⟨N, hN⟩ : ∃ N, N = mxI now n := ⟨_, rfl⟩
  rw [← hN]
  have hN2 : now ≤ N ∧ N ≤ 9223372036854775807 := by rw [hN]; unfold mxI; split <;> omega
  have eN : (if now < n then n else now) = N := hN.symm
  clear hN
  have hc2 := hM.blk.cell 2
  have hc3 := hM.blk.cell 3
  simp at hc2 hc3
  have hfr : ∀ j, w.frozen? ⟨g, j, none⟩ = false := fun j => hM.blk.frozen j
  obtain ⟨W2, hW2⟩ : ∃ W, W = (w.setCell ⟨g, 2, none⟩ (.int .i64 N)).setCell ⟨g, 3, none⟩ (.int .i64 (turns + 1)) := ⟨_, rfl⟩
  have HM2 : Hid (Mm W2 B g sv cost mn N (turns + 1) xs) := by rw [hW2]; exact (hM.setNow N).setTurns _
  have HF2 : Hid (Fm w W2 g sv) := by rw [hW2]; exact ((Fm.refl w g sv).cell _).cell _
  have HX : Hid (B ≤ w.heap.size ∧ (xs.length < 32 ∨ (xs.length ≤ 32 ∧ ∃ x ∈ xs, x.addr = a)) ∧ (∀ x ∈ xs, Sok cost now x)) := ⟨hB, hlen, hok⟩
  have HI : Hid (Calls Try.prog 32 #[.pointer (some ⟨g, 0, none⟩), .int .u32 a] W2 fun e w' => ∃ r : Int, e = .returned (.int .i64 r) ∧ Hid (atB xs a r) ∧ Below W2.heap.size W2 w') := by
    refine indexOf_any W2.heap.size sv xs a g W2 HM2.out.row.rk (Nat.le_refl _) (by rcases hlen with h | h <;> omega) ?_
    have := HM2.out.blk.cell 4
    simpa using this
  have HLK : Hid (lim = decide (bits BinOp.and IntKind.i64 flags 32 ≠ 0) ∧ kod = decide (bits BinOp.and IntKind.i64 flags 64 ≠ 0)) := ⟨hl, hk⟩
  have HR : Hid (∀ u sv' xs' v, HdR xs a cost mn N (turns + 1) lim kod xs' v → Mm u B g sv' cost mn N (turns + 1) xs' → Fm w u g sv → (∀ k, sv'.ownBlock = some k → sv.ownBlock = some k ∨ w.heap.size ≤ k) → ∃ sv' xs' v', Ending.returned (.int .i64 v) = .returned (.int .i64 v') ∧ HdR xs a cost mn N (turns + 1) lim kod xs' v' ∧ Mm u B g sv' cost mn N (turns + 1) xs' ∧ Fm w u g sv ∧ (∀ k, sv'.ownBlock = some k → sv.ownBlock = some k ∨ w.heap.size ≤ k)) := fun u sv' xs' v h1 h2 h3 h4 => ⟨sv', xs', v, rfl, h1, h2, h3, h4⟩
  clear hM hB hlen hok hl hk
  go_enter Try.func19, Try.ntmps19
  go_wp2_with fail
  rw [← hW2]
  clear hW2 hc2 hc3 hfr eN
  refine HI.out.mono ?_
  rintro e w3 ⟨r, rfl, hat, hb3⟩
  have HM3 : Hid (Mm w3 B g sv cost mn N (turns + 1) xs) := HM2.out.below hb3
  have HF3 : Hid (Fm w w3 g sv) := HF2.out.trans (Fm.of_below hb3) (fun k e => .inl e)
  clear hb3 HM2 HI
  rcases hat.out with ⟨hr, hno⟩ | ⟨i, hi, hr, hadr⟩
  · subst hr
    have hl32 : xs.length < 32 := by
      rcases HX.out.2.1 with h | ⟨_, x, hx, h⟩
      · exact h
      · exact absurd h (hno x hx)
    have HRM : Hid (Calls Try.prog 33 #[.pointer (some ⟨g, 0, none⟩), .int .u32 a] w3 fun e w' => e = .returned (.tuple #[]) ∧ ∃ sv', Mm w' B g sv' cost mn N (turns + 1) (xs ++ [nwS a cost N (turns + 1)]) ∧ Fm w3 w' g sv ∧ (∀ k, sv'.ownBlock = some k → sv.ownBlock = some k ∨ w3.heap.size ≤ k)) :=
      remember_few B g sv xs cost mn N (turns + 1) a w3 HM3.out (Nat.le_trans HX.out.1 HF3.out.size) hl32
    have HNO : Hid (∀ x ∈ xs, x.addr ≠ a) := hno
    clear hno
    go_wp2_with fail
    refine HRM.out.mono ?_
    rintro e w4 ⟨rfl, sv4, h1, h2, h3⟩
    go_wp2_with fail
    go_ret
    exact HR.out _ sv4 _ 0 (.inl ⟨HNO.out, rfl, rfl⟩) h1 (HF3.out.trans h2 (fun k e => .inl e)) (fun k e => (h3 k e).imp_right (fun h => Nat.le_trans HF3.out.size h))
  · subst hr
    obtain ⟨h, cap, hsv, hcap, hh1, hh2⟩ := HM3.out.row.form (by rw [List.length_map]; omega)
    rw [List.length_map] at hsv hcap
    subst hsv
    have hgh : g ≠ h := fun e => HM3.out.ne (by rw [e]; rfl)
    have c0' := HM3.out.blk.cell 0
    have c1' := HM3.out.blk.cell 1
    have c2' := HM3.out.blk.cell 2
    have c3' := HM3.out.blk.cell 3
    have c4' := HM3.out.blk.cell 4
    simp at c0' c1' c2' c3' c4'
    have hs := HX.out.2.2 xs[i] (List.getElem_mem hi)
    have HA : Hid (Calls Try.prog 34 #[.pointer (some ⟨g, 0, none⟩), .pointer (some ⟨h, i * 6, none⟩), .int .i64 flags] w3 fun e w' => e = .returned (.int .i64 (haV xs[i] cost mn N lim kod)) ∧ OR w' B 75 6 (.slice (some ⟨h, 0, none⟩) xs.length cap) ((xs.map snL).set i (snL (haS xs[i] cost mn N (turns + 1) lim kod))) ∧ w3.grownBy w' (some h)) :=
      hearAgain_any B g h cap xs.length (xs.map snL) i xs[i] cost mn N (turns + 1) flags lim kod w3 (by rw [List.length_map]; exact hi) HM3.out.row (getD_map' snL xs i hi) c0' c1' c2' c3' hgh (by omega) c1 m0 m1 hs.s0 (by have := hs.s1; omega) (by have := hs.l0; omega) hs.l1 hN2.2 hs.k0 hs.k1 HLK.out.1 HLK.out.2
    obtain ⟨V, hV⟩ : ∃ V, V = haV xs[i] cost mn N lim kod := ⟨_, rfl⟩
    rw [← hV] at HA
    have HV : Hid (V = haV xs[i] cost mn N lim kod ∧ xs[i].addr = a) := ⟨hV, hadr⟩
    obtain ⟨L, hL⟩ : ∃ L, L = xs.length := ⟨_, rfl⟩
    have hiL : (i : Int) < L := by omega
    have HH : Hid (i < xs.length ∧ L = xs.length) := ⟨hi, hL⟩
    rw [← hL] at c4'
    clear hV hadr hs hat
    go_wp2_with fail
    refine HA.out.mono ?_
    rintro e w4 ⟨rfl, h1, h2⟩
    go_wp2_with fail
    go_ret
    refine HR.out _ (.slice (some ⟨h, 0, none⟩) xs.length cap) (xs.set i (haS xs[i] cost mn N (turns + 1) lim kod)) V (.inr ⟨i, hi, HV.out.2, rfl, HV.out.1⟩) ⟨HM3.out.blk.kept (h2.block g HM3.out.blk.lt (by intro e; injection e with e; exact hgh e)), by rw [List.map_set]; exact h1, HM3.out.low⟩ (HF3.out.trans (Fm.row (sv := .slice (some ⟨h, 0, none⟩) xs.length cap) h2) (fun k e => .inl e)) (fun k e => .inl e)
/-- an entry -/
def enL (s : Sn) : List Value := [.int .u32 s.addr, .int .i64 s.first, .int .i64 s.last, .int .i64 s.count, .int .i64 s.score]
def zS : Sn := ⟨0, 0, 0, 0, 0, 0⟩
theorem en_info : (Try.prog.info? 52).map (·.size) = some 5 := by kernel_rfl
theorem results_cell_tmp {fn : Func} {p u : Tmp} {ty : TypeId} (h : fn.results = #[.cell p ty, .tmp u]) (tmps : Array Value) (w : World) : (results fn tmps).run Try.prog w = ((do let a ← asAddr (tmps.getD p undef); let v ← loadVar ty a; pure (.tuple #[v, tmps.getD u undef]) : Sem Value)).run Try.prog w := by
  simp [results, h, Sem.run_bind]
/-- a struct in memory and a value are told -/
theorem res_row2 {fn : Func} {p u : Tmp} {ty : TypeId} {fs : Array Field} (h : fn.results = #[.cell p ty, .tmp u]) (tmps : Array Value) (w : World) (g : Nat) (cs : Array Value) (x : Value) (hp : tmps.getD p undef = .pointer (some ⟨g, 0, none⟩)) (hu : tmps.getD u undef = x) (hB : Bk g w cs ty) (hd : Try.prog.underlying ty = some (.struct fs)) (hs : (Try.prog.info? ty).map (·.size) = some cs.size) : (results fn tmps).run Try.prog w = .ok (.tuple #[.agg cs, x]) w := by
  have := run_loadVar_row (P := Try.prog) w g ty ty cs (0, 0) _ hB hd rfl hs
  rw [results_cell_tmp h, hp, hu]
  simp [asAddr, this]
theorem Bk.set5 {p : Nat} {v : World} {a0 a1 a2 a3 a4 : Value} {T : TypeId} (h : Bk p v #[a0, a1, a2, a3, a4] T) (x0 x1 x2 x3 x4 : Value) : Bk p (((((v.setCell ⟨p, 0, none⟩ x0).setCell ⟨p, 1, none⟩ x1).setCell ⟨p, 2, none⟩ x2).setCell ⟨p, 3, none⟩ x3).setCell ⟨p, 4, none⟩ x4) #[x0, x1, x2, x3, x4] T := by
  have := ((((h.set (j := 0) x0).set (j := 1) x1).set (j := 2) x2).set (j := 3) x3).set (j := 4) x4
  simpa using this
theorem below_set5 {B p : Nat} {u v : World} (h : Below B u v) (hp : B ≤ p) (x0 x1 x2 x3 x4 : Value) : Below B u (((((v.setCell ⟨p, 0, none⟩ x0).setCell ⟨p, 1, none⟩ x1).setCell ⟨p, 2, none⟩ x2).setCell ⟨p, 3, none⟩ x3).setCell ⟨p, 4, none⟩ x4) :=
  ((((h.setCell hp _).setCell hp _).setCell hp _).setCell hp _).setCell hp _
set_option maxHeartbeats 2000000 in
theorem find_any (B g : Nat) (sv : Value) (xs : List Sn) (cost mn now turns a : Int) (w : World) (hM : Mm w B g sv cost mn now turns xs) (hlen : xs.length ≤ 32) :
    Calls Try.prog 22 #[.pointer (some ⟨g, 0, none⟩), .int .u32 a] w fun e w' => ∃ s b, e = .returned (.tuple #[.agg (enL s).toArray, .bool b]) ∧ ((b = true ∧ s ∈ xs ∧ s.addr = a) ∨ (b = false ∧ s = zS ∧ ∀ x ∈ xs, x.addr ≠ a)) ∧ Below w.heap.size w w' := by
  have HM : Hid (Mm w B g sv cost mn now turns xs) := hM
  have HI : Hid (∀ u, Below w.heap.size w u → Calls Try.prog 32 #[.pointer (some ⟨g, 0, none⟩), .int .u32 a] u fun e w' => ∃ r : Int, e = .returned (.int .i64 r) ∧ Hid (atB xs a r) ∧ Below u.heap.size u w') := fun u hu => by
    have hu' := hM.below hu
    refine indexOf_any u.heap.size sv xs a g u hu'.row.rk (Nat.le_refl _) (by omega) ?_
    have := hu'.blk.cell 4
    simpa using this
  clear hM
  go_enter Try.func22, Try.ntmps22
  go_wp2_with fail
  refine (HI.out _ ((Below.refl _ _).alloc (Nat.le_refl _) _)).mono ?_
  rintro e w3 ⟨r, rfl, hat, hb3⟩
  have HB3 : Hid (Below w.heap.size w w3) := ((Below.refl _ _).alloc (Nat.le_refl _) _).trans (hb3.mono (by simp))
  have HE3 : Hid (Bk w.heap.size w3 #[.int .u32 0, .int .i64 0, .int .i64 0, .int .i64 0, .int .i64 0] 52) := (Bk.new w _ _).kept (hb3.block _ (by simp))
  have e0 := HE3.out.cell 0
  have e1 := HE3.out.cell 1
  have e2 := HE3.out.cell 2
  have e3 := HE3.out.cell 3
  have e4 := HE3.out.cell 4
  simp at e0 e1 e2 e3 e4
  have hfr3 : ∀ j, w3.frozen? ⟨w.heap.size, j, none⟩ = false := fun j => HE3.out.frozen j
  have HM3 : Hid (Mm w3 B g sv cost mn now turns xs) := HM.out.below HB3.out
  clear hb3 HI
  rcases hat.out with ⟨hr, hno⟩ | ⟨i, hi, hr, hadr⟩
  · subst hr
    have HNO : Hid (∀ x ∈ xs, x.addr ≠ a) := hno
    clear hno
    go_wp2_with fail
    refine bodyPost_ret (v := .tuple #[.agg #[.int .u32 0, .int .i64 0, .int .i64 0, .int .i64 0, .int .i64 0], .bool false]) (res_row2 Try.results22 _ _ w.heap.size _ _ (by rfl) (by rfl) (HE3.out.set5 _ _ _ _ _) Try.underlying52 en_info) rfl ?_
    exact ⟨zS, false, rfl, .inr ⟨rfl, rfl, HNO.out⟩, below_set5 HB3.out (Nat.le_refl _) _ _ _ _ _⟩
  · subst hr
    obtain ⟨h, cap, hsv, hcap, hh1, hh2⟩ := HM3.out.row.form (by rw [List.length_map]; omega)
    rw [List.length_map] at hsv hcap
    subst hsv
    have c4' := HM3.out.blk.cell 4
    simp at c4'
    have hrow := HM3.out.row.at i (by rw [List.length_map]; exact hi)
    rw [getD_map' snL xs i hi] at hrow
    obtain ⟨s, hs⟩ : ∃ s, s = xs[i] := ⟨_, rfl⟩
    rw [← hs] at hrow hadr
    have HS : Hid (s ∈ xs ∧ s.addr = a) := ⟨by rw [hs]; exact List.getElem_mem hi, hadr⟩
    have HROW : Hid (∀ j u, (enL s)[j]? = some u → w3.cell? ((⟨h, i * 6, none⟩ : Addr).add j) = some u) := fun j u hu => hrow j u (by
      have hj : j < 5 := by
        rcases Nat.lt_or_ge j 5 with h5 | h5
        · exact h5
        · rw [List.getElem?_eq_none (by simp [enL]; omega)] at hu; cases hu
      have : (snL s)[j]? = (enL s)[j]? := by
        match j, hj with
        | 0, _ => rfl
        | 1, _ => rfl
        | 2, _ => rfl
        | 3, _ => rfl
        | 4, _ => rfl
      rw [this]; exact hu)
    have hiL : (i : Int) < (xs.length : Int) := by omega
    obtain ⟨x0, x1, x2, x3, x4, x5⟩ := s
    unfold enL at HROW
    simp only at HROW
    clear hs hadr hrow hat
    go_wp2_with (refine step_ldat 52 _ (by rfl) (by rfl) ⟨h, i * 6, none⟩ (by rfl) [.int .u32 x0, .int .i64 x1, .int .i64 x2, .int .i64 x3, .int .i64 x4] _ Try.underlying52 (by rfl) en_info ?_ ?_; exact HROW.out)
    refine bodyPost_ret (v := .tuple #[.agg #[.int .u32 x0, .int .i64 x1, .int .i64 x2, .int .i64 x3, .int .i64 x4], .bool true]) (res_row2 Try.results22 _ _ w.heap.size _ _ (by rfl) (by rfl) (HE3.out.set5 _ _ _ _ _) Try.underlying52 en_info) rfl ?_
    exact ⟨⟨x0, x1, x2, x3, x4, x5⟩, true, rfl, .inl ⟨rfl, HS.out.1, HS.out.2⟩, below_set5 HB3.out (Nat.le_refl _) _ _ _ _ _⟩
end Go.Proofs.Ytmgphfdieekpdaa
