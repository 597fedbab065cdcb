/- assoc: New. -/
import Derived.Test.YtnjdmkgkpdebdaaKO
namespace Go.Proofs.Ytnjdmkgkpdebdaa
open Go Go.RowKit Go.Sort
set_option linter.unusedVariables false
/-- do two have one address -/
def clB (b a : As) : Bool := decide (b.addr = a.addr) && (decide (b.kind = 6) == decide (a.kind = 6))
/-- does one come again -/
def dupB : List As → List As → Bool
  | _, [] => false
  | seen, a :: t => if seen.any (fun b => clB b a) = true then true else dupB (seen ++ [a]) t
def nwE (xs : List As) : Int := if 16 < xs.length then 120 else if dupB [] xs = true then 53 else 0
/-- the table of a configuration, its blocks told -/
def tbL (xs : List As) (bs : Nat → Nat) : List (Option Mb) := (List.range 16).map fun i => (xs[i]?).map fun a => ⟨bs i, (i : Int) + 1, a, 0, 0, 0⟩
theorem tb_len (xs : List As) (bs : Nat → Nat) : (tbL xs bs).length = 16 := by simp [tbL]
theorem tb_at (xs : List As) (bs : Nat → Nat) (i : Nat) (hi : i < 16) : (tbL xs bs)[i]? = some ((xs[i]?).map fun a => ⟨bs i, (i : Int) + 1, a, 0, 0, 0⟩) := by
  unfold tbL
  rw [List.getElem?_map, List.getElem?_range hi]
  rfl
theorem tb_some {xs : List As} {bs : Nat → Nat} {i : Nat} {m : Mb} (h : (tbL xs bs)[i]? = some (some m)) : i < 16 ∧ ∃ a, xs[i]? = some a ∧ m = ⟨bs i, (i : Int) + 1, a, 0, 0, 0⟩ := by
  have hi : i < 16 := by
    rcases Nat.lt_or_ge i 16 with h' | h'
    · exact h'
    · rw [List.getElem?_eq_none (by rw [tb_len]; exact h')] at h; cases h
  rw [tb_at xs bs i hi] at h
  injection h with h
  cases ha : xs[i]? with
  | none => rw [ha] at h; cases h
  | some a => rw [ha] at h; exact ⟨hi, a, rfl, (Option.some.inj h).symm⟩
theorem tb_set (xs : List As) (bs : Nat → Nat) (k g : Nat) (a : As) (hk : k < 16) (ha : xs[k]? = some a) : (tbL (xs.take k) bs).set k (some ⟨g, (k : Int) + 1, a, 0, 0, 0⟩) = tbL (xs.take (k + 1)) (fun i => if i = k then g else bs i) := by
  refine List.ext_getElem? fun i => ?_
  rw [List.getElem?_set, tb_len]
  rcases Nat.lt_or_ge i 16 with hi | hi
  · rw [tb_at _ _ i hi, tb_at _ _ i hi, List.getElem?_take, List.getElem?_take]
    by_cases e : k = i
    · subst e
      simp [hk, ha]
    · have e2 : ¬ i = k := fun h => e h.symm
      rw [if_neg e]
      simp only [if_neg e2]
      by_cases h : i < k
      · simp [h, show i < k + 1 by omega]
      · simp [h, show ¬ i < k + 1 by omega]
  · rw [if_neg (by omega), List.getElem?_eq_none (by rw [tb_len]; exact hi), List.getElem?_eq_none (by rw [tb_len]; exact hi)]
/-- who is found -/
theorem fsF_ne (p : Mb → Bool) : ∀ ms : List (Option Mb), (∀ m, some m ∈ ms → m.id ≠ 0) → (fsF p ms ≠ 0 ↔ ∃ m, some m ∈ ms ∧ p m = true)
  | [], _ => by simp [fsF]
  | none :: t, h => by
    rw [fsF, fsF_ne p t (fun m hm => h m (by simp [hm]))]
    simp
  | some m :: t, h => by
    rw [fsF]
    split
    · rename_i hp
      exact ⟨fun _ => ⟨m, by simp, hp⟩, fun _ => h m (by simp)⟩
    · rename_i hp
      rw [fsF_ne p t (fun m hm => h m (by simp [hm]))]
      constructor
      · rintro ⟨n, h1, h2⟩; exact ⟨n, by simp [h1], h2⟩
      · rintro ⟨n, h1, h2⟩
        rcases List.mem_cons.1 h1 with h1 | h1
        · injection h1 with h1; subst h1; exact absurd h2 hp
        · exact ⟨n, h1, h2⟩
theorem nk_cl (a : As) (m : Mb) : nkP a.addr (decide (a.kind = 6)) m = clB m.ac a := rfl
theorem kn_tb (xs : List As) (bs : Nat → Nat) (a : As) (hl : xs.length ≤ 16) : knB (tbL xs bs) a = xs.any (fun b => clB b a) := by
  unfold knB
  rw [Bool.eq_iff_iff, decide_eq_true_eq, fsF_ne, List.any_eq_true]
  · constructor
    · rintro ⟨m, hm, hp⟩
      obtain ⟨i, hi⟩ := List.getElem?_of_mem hm
      obtain ⟨_, b, hb, rfl⟩ := tb_some hi
      exact ⟨b, List.mem_of_getElem? hb, hp⟩
    · rintro ⟨b, hb, hp⟩
      obtain ⟨i, hi⟩ := List.getElem?_of_mem hb
      have h16 : i < 16 := by
        rcases Nat.lt_or_ge i xs.length with h | h
        · omega
        · rw [List.getElem?_eq_none h] at hi; cases hi
      refine ⟨⟨bs i, (i : Int) + 1, b, 0, 0, 0⟩, ?_, hp⟩
      have := tb_at xs bs i h16
      rw [hi] at this
      exact List.mem_of_getElem? this
  · intro m hm
    obtain ⟨i, hi⟩ := List.getElem?_of_mem hm
    obtain ⟨_, b, hb, rfl⟩ := tb_some hi
    simp only
    omega
theorem ix_as {ao : Option Addr} {ad : Addr} (n cap k : Nat) (h : ao = some ad) (hk : (k : Int) < n) (w : World) : Sem.run Try.prog (Instr.indexAt 22 (.slice ao n cap) (.int .i64 (k : Int))) w = .ok (.pointer (some (ad.add (k * 12)))) w := by
  have u' := Try.underlying22
  have c3 : Try.prog.cellsOf 41 = 12 := by kernel_rfl
  have h0 : (0 : Int) ≤ k := Int.natCast_nonneg k
  subst h
  go_simp
/-- the table under way -/
structure Nr (w W : World) (q : Nat) (ms : List (Option Mb)) : Prop where
  tb : Tb W q ms
  be : Below w.heap.size w W
  hq : w.heap.size ≤ q
  hm : ∀ (i : Nat) m, ms[i]? = some (some m) → w.heap.size ≤ m.b
theorem Nr.below {w W W' : World} {q : Nat} {ms : List (Option Mb)} (h : Nr w W q ms) (hb : Below W.heap.size W W') : Nr w W' q ms := ⟨h.tb.below hb, below_thru h.be hb, h.hq, h.hm⟩
theorem nil_tab : Sem.run Try.prog (Instr.build 74 #[]) = fun w => .ok (.agg (((tbL [] fun _ => 0).map ptr).toArray)) w := by
  funext w
  kernel_rfl
theorem new_done {w W : World} {q : Nat} {xs : List As} {bs : Nat → Nat} {k : Nat} {a : As} (h : Nr w W q (tbL (xs.take k) bs)) (hk : k < 16) (ha : xs[k]? = some a) :
    Nr w (((W.setCell ⟨q, k, none⟩ (.pointer (some ⟨W.heap.size, 0, none⟩))).alloc (.cells (mbL ⟨W.heap.size, (k : Int) + 1, a, 0, 0, 0⟩).toArray 77)).drew) q (tbL (xs.take (k + 1)) (fun i => if i = k then W.heap.size else bs i)) := by
  obtain ⟨m, hm⟩ : ∃ m : Mb, m = ⟨W.heap.size, (k : Int) + 1, a, 0, 0, 0⟩ := ⟨_, rfl⟩
  have hb : m.b = W.heap.size := by rw [hm]
  have hd : m.id = (k : Int) + 1 := by rw [hm]
  obtain ⟨V, hV⟩ : ∃ V, V = W.setCell ⟨q, k, none⟩ (.pointer (some ⟨W.heap.size, 0, none⟩)) := ⟨_, rfl⟩
  have g1 : W.grownBy V (some q) := by rw [hV]; exact grownBy_set W ⟨q, k, none⟩ _
  have s1 : V.heap.size = W.heap.size := by rw [hV]; simp
  have k1 : Bk q V (((tbL (xs.take k) bs).set k (some m)).map ptr).toArray 74 := by
    have h2 := bk_ptr h.tb.tab m (i := k) (by rw [h.tb.len]; exact hk)
    have e : ptr (some m) = .pointer (some ⟨W.heap.size, 0, none⟩) := by unfold ptr; simp only [hb]
    rw [e] at h2
    rw [hV]
    exact h2
  rw [← hV, ← hm, ← tb_set xs bs k W.heap.size a hk ha, ← hm]
  have b2 : Below V.heap.size V ((V.alloc (.cells (mbL m).toArray 77)).drew) := below_drew (below_alloc (Below.refl _ _) _)
  have hsz := h.be.size
  refine ⟨h.tb.put k hk m ?_ (k1.kept (b2.block _ k1.lt)) (Nat.le_of_eq hb.symm) hd (fun j hj hne => ?_), ?_, h.hq, fun i n hn => ?_⟩
  · have := Bk.new V (mbL m).toArray 77
    rw [s1, ← hb] at this
    exact this
  · rw [b2.block j (by omega)]
    exact g1.block j hj (fun e => hne (Option.some.inj e))
  · have hq := h.hq
    refine (h.be.trans ⟨g1.os, g1.tape, g1.output, g1.size, fun j hj => g1.block j (Nat.lt_of_lt_of_le hj hsz) (fun e => by injection e with e; omega)⟩).trans (b2.mono (by omega))
  · rw [List.getElem?_set] at hn
    split at hn
    · split at hn
      · injection hn with hn
        injection hn with hn
        subst hn
        omega
      · cases hn
    · exact h.hm i n hn
theorem nil_at : ∀ (i : Nat) (m : Mb), (tbL [] fun _ => 0)[i]? ≠ some (some m) := fun i m h => by
  obtain ⟨_, a, ha, _⟩ := tb_some h
  simp at ha
theorem nil_rows : ∀ i, at0 (tbL [] fun _ => 0) i = none := fun i => by
  cases h : at0 (tbL [] fun _ => 0) i with
  | none => rfl
  | some m => exact absurd (at0_some.1 h) (nil_at i m)
theorem new_start {w W W' : World} {q : Nat} (hb : Below w.heap.size w W) (h : Nw W W' q ((tbL [] fun _ => 0).map ptr).toArray 74) : Nr w W' q (tbL [] fun _ => 0) :=
  ⟨⟨h.bk, tb_len _ _, fun i m hm => absurd hm (nil_at i m), fun i j m n hi => absurd hi (nil_at i m)⟩, below_thru hb h.be, by rw [h.at']; exact hb.size, fun i m hm => absurd hm (nil_at i m)⟩
/-- what New hands out -/
def NwR (w w' : World) (xs : List As) (e : Ending) : Prop := (nwE xs ≠ 0 ∧ e = .returned (.tuple #[.pointer none, .int .i64 (nwE xs)])) ∨ (nwE xs = 0 ∧ ∃ q bs, e = .returned (.tuple #[.pointer (some ⟨q, 0, none⟩), .int .i64 0]) ∧ Nr w w' q (tbL xs bs))
set_option maxRecDepth 20000 in
set_option maxHeartbeats 2000000 in
theorem new_any (cf : List Value) (av : Value) (ls mc : Bool) (xs : List As) (w : World) (hc : Cf cf av ls mc) (hr : Rk w.heap.size w 12 av (xs.map asL)) : Calls Try.prog 8 #[.agg cf.toArray] w fun e w' => NwR w w' xs e ∧ Below w.heap.size w w' := by
  have HC : Hid (Cf cf av ls mc) := hc
  obtain ⟨ao, cap, hav, hcap, hrow⟩ := hr
  rw [List.length_map] at hav hrow
  obtain ⟨L, hL⟩ : ∃ L, xs.length = L := ⟨_, rfl⟩
  rw [hL] at hav hrow
  have HR : Hid (∀ i, i < L → ∃ ad, ao = some ad ∧ ad.block < w.heap.size ∧ ∀ j u, ((xs.map asL).getD i [])[j]? = some u → w.cell? (ad.add (i * 12 + j)) = some u) := hrow
  have HL : Hid (xs.length = L) := hL
  subst hav
  clear hc hcap hrow hL
  go_enter Try.func8, Try.ntmps8
  refine post_hid fun Q hQ => ?_
  refine seq_hid fun R hR => ?_
  go_wp2_with (refine step_boxL (by rfl) 29 _ rfl cf.toArray (by rfl) (fun u => by rfl) ?_; intro W1 g1 H1)
  rw [hR.out]
  clear hR
  have c0 : W1.cell? ⟨g1, 0, none⟩ = some (.slice ao L cap) := by rw [H1.out.bk.cell 0, List.getElem?_toArray]; exact HC.out.as0
  by_cases hbig : 16 < L
  · have HE : Hid (nwE xs = 120) := by show _ = _; unfold nwE; rw [HL.out, if_pos hbig]
    have hb2 : (16 : Int) < (L : Int) := by omega
    go_wp2_with fail
    rw [hQ.out]
    go_ret2
    exact ⟨.inl ⟨by rw [HE.out]; decide, by rw [HE.out]; rfl⟩, H1.out.be⟩
  have hb2 : (L : Int) ≤ 16 := by omega
  go_upto_region 4 with (first
    | (refine step_bdL (by rfl) 74 [] rfl [] (by rfl) (.agg ((tbL [] fun _ => 0).map ptr).toArray) (by rw [nil_tab]) ?_)
    | (refine step_boxL (by rfl) 74 _ rfl ((tbL [] fun _ => 0).map ptr).toArray (by rfl) (fun u => by rfl) ?_; intro W2 q H2))
  have H3 : Hid (Nr w W2 q (tbL [] fun _ => 0)) := new_start H1.out.be H2.out
  have d0 : W2.cell? ⟨g1, 0, none⟩ = some (.slice ao L cap) := by rw [(H2.out.other H1.out.bk).cell 0, List.getElem?_toArray]; exact HC.out.as0
  clear H1 H2 c0
  go_wp2_with fail
  go_loopw [16] (fun i wr => ∃ (k : Nat) (bs : Nat → Nat), i = .int .i64 k ∧ (k : Int) ≤ L ∧ Hid (Nr w wr q (tbL (xs.take k) bs) ∧ dupB [] xs = dupB (xs.take k) (xs.drop k))) (fun i _ => 16 - (intOf i).toNat)
  case atStart => exact ⟨0, fun _ => 0, rfl, by omega, ⟨by simpa using H3.out, rfl⟩⟩
  case round =>
    obtain ⟨k, bs, rfl, hk, HI⟩ := hrel
    clear H3 d0
    by_cases hlt : (k : Int) < L
    · obtain ⟨ad, g1', g2', g3'⟩ := HR.out k (by omega)
      have hix := ix_as L cap k g1' hlt
      have hkl : k < xs.length := by rw [HL.out]; omega
      obtain ⟨a, ha⟩ : ∃ a, a = xs[k] := ⟨_, rfl⟩
      have HA : Hid (xs[k]? = some a) := by show _ = _; rw [List.getElem?_eq_getElem hkl, ha]
      have HD : Hid (xs.drop k = a :: xs.drop (k + 1)) := by show _ = _; rw [ha]; exact List.drop_eq_getElem_cons hkl
      have HTk : Hid (xs.take (k + 1) = xs.take k ++ [a]) := by show _ = _; rw [ha]; exact List.take_succ_eq_append_getElem hkl
      have HS : Hid (∀ j u, (asL a)[j]? = some u → wr.cell? ((ad.add (k * 12)).add j) = some u) := fun j u hu => by
        rw [add_add, HI.out.1.be.cell (p := ad.add (k * 12 + j)) (by rw [add_block]; exact g2')]
        refine g3' j u ?_
        rw [List.getD_eq_getElem?_getD, List.getElem?_map, HA.out]
        exact hu
      clear g1' g2' g3' ha hkl
      go_upto_region 7 with (first
        | (refine step_ldat 41 _ rfl rfl (ad.add (k * 12)) (by rfl) (asL a) _ Try.underlying41 rfl (by kernel_rfl) HS.out ?_)
        | (refine step_alL (by rfl) 41 rfl (asL zAs).toArray (fun u => by kernel_rfl) ?_; intro w3 g H3)
        | (refine step_stL (by rfl) _ _ rfl g (asL a).toArray (by rfl) (by rfl) (asL zAs).toArray (by kernel_rfl) (by kernel_rfl) (by kernel_rfl) H3.out.bk ?_; intro w4 H4))
      have H5 : Hid (Nr w w4 q (tbL (xs.take k) bs) ∧ Bk g w4 (asL a).toArray 41 ∧ q < g) := by
        have hq : q < g := by rw [H3.out.at']; exact HI.out.1.tb.lt
        have hb : Below wr.heap.size wr w4 := H4.out.below H3.out.be H3.out.be.size (Nat.le_of_eq H3.out.at'.symm)
        exact ⟨HI.out.1.below hb, H4.out.bk, hq⟩
      clear H3 H4 HS hix
      obtain ⟨K, hK⟩ : ∃ K, knB (tbL (xs.take k) bs) a = K := ⟨_, rfl⟩
      have HK : Hid (knB (tbL (xs.take k) bs) a = K) := hK
      have HK2 : Hid ((xs.take k).any (fun b => clB b a) = K) := by show _ = _; rw [← hK, kn_tb]; rw [List.length_take]; omega
      clear hK
      have HC4 : Hid (∀ j u, (asL a)[j]? = some u → w4.cell? ((⟨g, 0, none⟩ : Addr).add j) = some u) := cells_of (l := asL a) H5.out.2.1
      cases K
      · go_upto_region 9 with (first
          | (refine step_ldat 41 _ rfl rfl ⟨g, 0, none⟩ (by rfl) (asL a) _ Try.underlying41 rfl (by kernel_rfl) HC4.out ?_)
          | (go_at_call 22; refine (knows_any q _ a w4 H5.out.1.tb).mono ?_; rintro e w6 ⟨rfl, hb2⟩; rw [HK.out]; have H6 : Hid (Nr w w6 q (tbL (xs.take k) bs) ∧ Bk g w6 (asL a).toArray 41 ∧ q < g) := ⟨H5.out.1.below hb2, H5.out.2.1.kept (hb2.block _ H5.out.2.1.lt), H5.out.2.2⟩; clear hb2))
        clear H5 HC4
        have hk16 : k < 16 := by omega
        have hix := ixa q k hk16
        have l1 : (k : Int) < 16 := by omega
        have e4 : (0 : Int) ≤ k := Int.natCast_nonneg k
        have e5 : wrap64 ((k : Int) + 1) = (k : Int) + 1 := by unfold wrap64; omega
        have e6 : IntKind.i64.wrap ((k : Int) + 1) = (k : Int) + 1 := by rw [IntWalk.i64_left]; exact e5
        have c0 : w6.cell? ⟨g, 0, none⟩ = some (.int .i64 a.kind) := H6.out.2.1.cell 0
        have c1 : w6.cell? ⟨g, 1, none⟩ = some (.int .u32 a.addr) := H6.out.2.1.cell 1
        have c2 : w6.cell? ⟨g, 2, none⟩ = some (.int .i64 a.key) := H6.out.2.1.cell 2
        have c3 : w6.cell? ⟨g, 3, none⟩ = some (.int .i64 a.minp) := H6.out.2.1.cell 3
        have c4 : w6.cell? ⟨g, 4, none⟩ = some (.int .i64 a.maxp) := H6.out.2.1.cell 4
        have c5 : w6.cell? ⟨g, 5, none⟩ = some (.bool a.burst) := H6.out.2.1.cell 5
        have c6 : w6.cell? ⟨g, 6, none⟩ = some (.bool a.ib) := H6.out.2.1.cell 6
        have c7 : w6.cell? ⟨g, 7, none⟩ = some (.bool a.pref) := H6.out.2.1.cell 7
        have c8 : w6.cell? ⟨g, 8, none⟩ = some (.int .i64 a.ttl) := H6.out.2.1.cell 8
        have c9 : w6.cell? ⟨g, 9, none⟩ = some (.bool a.pulse) := H6.out.2.1.cell 9
        have c10 : w6.cell? ⟨g, 10, none⟩ = some (.int .i64 a.fudge) := H6.out.2.1.cell 10
        have c11 : w6.cell? ⟨g, 11, none⟩ = some (.int .i64 a.str) := H6.out.2.1.cell 11
        have cq : w6.cell? ⟨q, k, none⟩ = some (.pointer none) := by
          rw [H6.out.1.tb.cell k hk16, List.getD_eq_getElem?_getD, tb_at _ _ k hk16, List.getElem?_take_eq_none (Nat.le_refl _)]; rfl
        have fq : w6.frozen? ⟨q, k, none⟩ = false := H6.out.1.tb.tab.frozen k
        have hq1 : q < w6.heap.size := H6.out.1.tb.lt
        have cq2 : ∀ o, (w6.alloc o).cell? ⟨q, k, none⟩ = some (.pointer none) := fun o => by rw [World.cell?_alloc_lt _ _ _ hq1]; exact cq
        have fq2 : ∀ o, (w6.alloc o).frozen? ⟨q, k, none⟩ = false := fun o => (Bk.kept H6.out.1.tb.tab (((Below.refl w6.heap.size w6).alloc (Nat.le_refl _) o).block _ hq1)).frozen k
        have hg1 : g < w6.heap.size := H6.out.2.1.lt
        have hne : ¬ q = g := by have := H6.out.2.2; omega
        have hne2 : ¬ g = q := by have := H6.out.2.2; omega
        go_region_held3 (fun w' => w'.cell? ⟨g, 0, none⟩ = some (.int .i64 a.kind) ∧ w'.cell? ⟨g, 1, none⟩ = some (.int .u32 a.addr) ∧ w'.cell? ⟨g, 2, none⟩ = some (.int .i64 a.key) ∧ w'.cell? ⟨g, 3, none⟩ = some (.int .i64 a.minp) ∧ w'.cell? ⟨g, 4, none⟩ = some (.int .i64 a.maxp) ∧ w'.cell? ⟨g, 5, none⟩ = some (.bool a.burst) ∧ w'.cell? ⟨g, 6, none⟩ = some (.bool a.ib) ∧ w'.cell? ⟨g, 7, none⟩ = some (.bool a.pref) ∧ w'.cell? ⟨g, 8, none⟩ = some (.int .i64 a.ttl) ∧ w'.cell? ⟨g, 9, none⟩ = some (.bool a.pulse) ∧ w'.cell? ⟨g, 10, none⟩ = some (.int .i64 a.fudge) ∧ w'.cell? ⟨g, 11, none⟩ = some (.int .i64 a.str)) (first | exact ⟨c0, c1, c2, c3, c4, c5, c6, c7, c8, c9, c10, c11⟩ | go_keep) (fail)
        go_wp2_with fail
        go_roundw
        case rel =>
          refine ⟨k + 1, _, by go_num, by omega, ⟨new_done H6.out.1 hk16 HA.out, ?_⟩⟩
          rw [HI.out.2, HD.out, dupB, if_neg (by rw [HK2.out]; decide), HTk.out]
        case measure => simp [intOf]; omega
      · have HE : Hid (nwE xs = 53) := by
          show _ = _
          unfold nwE
          rw [if_neg (by rw [HL.out]; omega), if_pos]
          rw [HI.out.2, HD.out, dupB, if_pos HK2.out]
        go_wp2_with (first
          | (refine step_ldat 41 _ rfl rfl ⟨g, 0, none⟩ (by rfl) (asL a) _ Try.underlying41 rfl (by kernel_rfl) HC4.out ?_)
          | (go_at_call 22; refine (knows_any q _ a w4 H5.out.1.tb).mono ?_; rintro e w6 ⟨rfl, hb2⟩; rw [HK.out]; have H6 : Hid (Nr w w6 q (tbL (xs.take k) bs)) := H5.out.1.below hb2; clear hb2))
        rw [hQ.out]
        go_ret2
        exact ⟨.inl ⟨by rw [HE.out]; decide, by rw [HE.out]; rfl⟩, H6.out.be⟩
    · have HE : Hid (nwE xs = 0 ∧ xs.take k = xs) := by
        have e1 : xs.take k = xs := List.take_of_length_le (by rw [HL.out]; omega)
        have e2 : xs.drop k = [] := List.drop_eq_nil_of_le (by rw [HL.out]; omega)
        refine ⟨?_, e1⟩
        unfold nwE
        rw [if_neg (by rw [HL.out]; omega), if_neg]
        rw [HI.out.2, e2, dupB]
        decide
      go_wp2_with fail
      rw [hQ.out]
      go_ret2
      have h1 := HI.out.1
      rw [HE.out.2] at h1
      exact ⟨.inr ⟨HE.out.1, q, bs, rfl, h1⟩, h1.be⟩
end Go.Proofs.Ytnjdmkgkpdebdaa
