/- assoc: AssocBounds. -/
import Derived.Test.YtnjdmkgkpdebdaaKX
namespace Go.Proofs.Ytnjdmkgkpdebdaa
open Go Go.RowKit Go.Sort
set_option linter.unusedVariables false
theorem Tw.ex {w W W' : World} {q : Nat} {T T' : List (Option Mb)} {bl : List (Nat × List Value × TypeId)} {S : Nat → Prop} (h : Tw w W q T bl) (ht : Tb W' q T') (hs : SpS T S T') (hg : W.grownBy W' (some q)) : Tw w W' q T' bl := by
  have hh : ∀ (i : Nat) m, T'[i]? = some (some m) → T[i]? = some (some m) := fun i m hm => at0_some.1 (hs.same i m (at0_some.2 hm))
  exact ⟨ht, below_own' h.be hg h.hq, h.hq, fun i m hm => h.hm i m (hh i m hm), fun i m hm => h.kw i m (hh i m hm), fun x hx => ⟨(h.bk x hx).1.kept (hg.block _ (h.bk x hx).1.lt (fun e => (h.bk x hx).2.1 (Option.some.inj e))), (h.bk x hx).2.1, fun i m hm => (h.bk x hx).2.2 i m (hh i m hm)⟩⟩
theorem ad_rows {ms : List (Option Mb)} (hl : ms.length = 16) (a : As) (p now : Int) (b : Nat) (h : adE ms a p = 0) : (rowsOf (adT ms a p now b)).length = (rowsOf ms).length + 1 ∧ 1 ≤ adN ms a p ∧ adN ms a p ≤ 16 := by
  obtain ⟨_, i, hi, hf, hn⟩ := ad_ok hl h
  unfold adT adN
  rw [if_pos h, if_pos h, rows_cnt, rows_cnt]
  have e : (frF ms 0 - 1).toNat = i := by omega
  rw [e]
  exact ⟨cnt_new ms i _ hn, by omega, by omega⟩
theorem ad_same {ms : List (Option Mb)} (a : As) (p now : Int) (b : Nat) (h : adE ms a p ≠ 0) : adT ms a p now b = ms := by
  unfold adT
  rw [if_neg h]
/-- how long a list is -/
theorem list_len (q : Nat) (ms : List (Option Mb)) (n : Nat) (hn : (rowsOf ms).length = n) (u : World) (hu : Tb u q ms) : Calls Try.prog 14 #[.pointer (some ⟨q, 0, none⟩)] u fun e w' => ∃ ao cap, e = .returned (.slice ao n cap) ∧ Below u.heap.size u w' := by
  refine (list_any q ms u hu).mono ?_
  rintro e w' ⟨v, rfl, h1, h2⟩
  obtain ⟨ao, cap, rfl⟩ := or_len h1.out
  exact ⟨ao, cap, by rw [List.length_map, hn], h2.out⟩
set_option maxRecDepth 40000 in
set_option maxHeartbeats 8000000 in
theorem AssocBounds_row (cf : List Value) (sv : Value) (xs : List As) (ls mc : Bool) (ss : List Stp) (w : World) (hc : Cx w.heap.size w cf xs ls mc) (hs : Sx w.heap.size w sv ss) :
    Calls Try.prog 5 #[.agg cf.toArray, sv] w fun e w' => e = .returned (.bool true) ∧ Below w.heap.size w w' := by
  obtain ⟨av, hcf, hrk⟩ := hc.fm
  have HC : Hid (Cf cf av ls mc ∧ Rk w.heap.size w 12 av (xs.map asL) ∧ ∀ a ∈ xs, (Lit.int .i64 a.kind).wf = true) := ⟨hcf, hrk, hc.wk⟩
  obtain ⟨⟨ao, cap, hsv, hrow⟩, hok, hlen⟩ := hs
  obtain ⟨L, hL⟩ : ∃ L, ss.length = L := ⟨_, rfl⟩
  rw [hL] at hsv hlen
  subst hsv
  have HS : Hid ((∀ (k : Nat) (x : Stp), ss[k]? = some x → ∃ ad, ao = some ad ∧ ad.block < w.heap.size ∧ ∀ j u, (spC x)[j]? = some u → w.cell? ((ad.add (k * 37)).add j) = some u) ∧ (∀ x ∈ ss, okX x) ∧ ss.length = L) := ⟨hrow, hok, hL⟩
  clear hc hcf hrk hrow hok hL
  go_enter Try.func5, Try.ntmps5
  refine post_hid fun Q hQ => ?_
  refine seq_hid fun R hR => ?_
  go_wp2_with (refine step_boxL (by rfl) 29 _ rfl cf.toArray (by rfl) (fun u => by rfl) ?_; intro W1 gc H1)
  rw [hR.out]
  clear hR
  refine seq_hid fun R hR => ?_
  go_wp2_with (go_at_call 7; refine (shown_any W1).mono ?_; rintro e w1 ⟨rfl, hb1⟩; have H4 : Hid (Bk gc w1 cf.toArray 29 ∧ Below w.heap.size w w1) := ⟨H1.out.bk.kept (hb1.block _ H1.out.bk.lt), below_thru H1.out.be hb1⟩; clear hb1)
  rw [hR.out]
  clear hR H1
  have HCc : Hid (∀ j u, cf[j]? = some u → w1.cell? ((⟨gc, 0, none⟩ : Addr).add j) = some u) := cells_of H4.out.1
  have HLc : Hid ((Try.prog.info? 29).map (·.size) = some cf.length) := by show _ = _; rw [HC.out.1.len]; kernel_rfl
  have HN : Hid (Calls Try.prog 8 #[.agg cf.toArray] w1 fun e w' => NwR w1 w' xs e ∧ Below w1.heap.size w1 w') := new_any cf av ls mc xs w1 HC.out.1 ((HC.out.2.1.below H4.out.2 (Nat.le_refl _)).mono H4.out.2.size)
  go_upto_region 4 with (first
    | (refine step_ldat 29 _ rfl rfl ⟨gc, 0, none⟩ (by rfl) cf _ Try.underlying29 rfl HLc.out HCc.out ?_)
    | (go_at_call 8; refine HN.out.mono ?_; rintro e w2 ⟨h2, hb2⟩; have H5 : Hid (Below w1.heap.size w1 w2) := hb2; clear hb2; rcases h2 with ⟨hz, rfl⟩ | ⟨hz, q, bs, rfl, h2⟩))
  · obtain ⟨E, hE⟩ : ∃ E, nwE xs = E := ⟨_, rfl⟩
    rw [hE] at hz ⊢
    have hz2 : (E == 0) = false := by simpa using hz
    have hz3 : (E != 0) = true := by simpa using hz
    go_wp2_with fail
    rw [hQ.out]
    go_ret
    exact ⟨rfl, below_thru H4.out.2 H5.out⟩
  have hx16 : xs.length ≤ 16 := by
    unfold nwE at hz
    split at hz
    · cases hz
    · omega
  have HX16 : Hid (xs.length ≤ 16) := hx16
  have H6 : Hid (Bd w w2 q (tbL xs bs) xs gc cf) := ⟨Tw.of h2 H4.out.2 HC.out.2.2 fun x hx => by
    simp only [List.mem_cons, List.not_mem_nil, or_false] at hx
    subst hx
    exact H4.out.1, Bp.start hz bs⟩
  clear h2 hz HN HCc H4 H5 hx16 HLc
  have hL2 : (L : Int) ≤ 9223372036854775807 := by omega
  go_wp2_with fail
  go_loopw [35] (fun i wr => ∃ (k : Nat) (ms : List (Option Mb)), i = .int .i64 k ∧ (k : Int) ≤ L ∧ Hid (Bd w wr q ms xs gc cf)) (fun i _ => L - (intOf i).toNat)
  case atStart => exact ⟨0, tbL xs bs, rfl, by omega, H6⟩
  case round =>
    obtain ⟨k, ms, rfl, hk, HI⟩ := hrel
    clear H6
    by_cases hlt : (k : Int) < L
    · have hkl : k < ss.length := by rw [HS.out.2.2]; omega
      obtain ⟨x, hx⟩ : ∃ x, x = ss[k] := ⟨_, rfl⟩
      have hxk : ss[k]? = some x := by rw [List.getElem?_eq_getElem hkl, hx]
      obtain ⟨ad, g1', g2', g3'⟩ := HS.out.1 k x hxk
      have OK : Hid (okX x) := HS.out.2.1 x (List.mem_of_getElem? hxk)
      have hix := ix_sp L cap k g1' hlt
      have HX : Hid (∀ j u, (spC x)[j]? = some u → wr.cell? ((ad.add (k * 37)).add j) = some u) := fun j u hu => by
        rw [HI.out.tw.be.cell (p := (ad.add (k * 37)).add j) (by rw [add_block, add_block]; exact g2')]
        exact g3' j u hu
      have HZ : Hid ((Try.prog.info? 49).map (·.size) = some (spC x).length) := sp_size OK.out
      clear g1' g2' g3' hx hxk hkl
      go_upto_region 9 with (first
        | (refine step_ldat 49 _ rfl rfl (ad.add (k * 37)) (by rfl) (spC x) _ Try.underlying49 rfl HZ.out HX.out ?_)
        | (refine step_alL (by rfl) 49 rfl (spC spZ).toArray (fun u => by kernel_rfl) ?_; intro w3 g H3)
        | (refine step_stL (by rfl) _ _ rfl g (spC x).toArray (by rfl) (by rfl) (spC spZ).toArray (sp_size OK.out) (sp_size2 OK.out) (sp_one OK.out) H3.out.bk ?_; intro w4 H4))
      have H5 : Hid (Bd w w4 q ms xs gc cf ∧ Sb w4 g x) := ⟨HI.out.below (H4.out.below H3.out.be H3.out.be.size (Nat.le_of_eq H3.out.at'.symm)), ⟨H4.out.bk, OK.out⟩⟩
      clear H3 H4 HI HX HZ hix
      rename_i K9 h9
      have H9 : Hid _ := h9
      clear h9
      obtain ⟨n, hn⟩ : ∃ n, (rowsOf ms).length = n := ⟨_, rfl⟩
      have HN : Hid ((rowsOf ms).length = n) := hn
      have hn16 : (n : Int) ≤ 16 := by
        have h1 := rows_len ms
        have h2 := H5.out.1.tw.tb.len
        omega
      clear hn
      have L1 : (k : Int) + 1 ≤ 9223372036854775807 := by omega
      go_wp2_with (go_at_call 14; refine (list_len q ms n HN.out w4 H5.out.1.tw.tb).mono ?_; rintro e w5 ⟨ao5, cap5, rfl, hb5⟩; have H6 : Hid (Bd w w5 q ms xs gc cf ∧ Sb w5 g x) := ⟨H5.out.1.below hb5, ⟨H5.out.2.bk.kept (hb5.block _ H5.out.2.bk.lt), OK.out⟩⟩; clear hb5)
      refine H9.out _ _ ?_
      clear H9 H5
      have c0 : w5.cell? ⟨g, 0, none⟩ = some (.int .i64 x.k) := by rw [H6.out.2.cell 0]; exact (sp_at OK.out).1
      have c1 : w5.cell? ⟨g, 1, none⟩ = some (.int .i64 x.ac.kind) := by rw [H6.out.2.cell 1]; exact (sp_at OK.out).2.1 0 _ rfl
      have c36 : w5.cell? ⟨g, 36, none⟩ = some (.int .i64 x.act) := by rw [H6.out.2.cell 36]; exact (sp_at OK.out).2.2.2.2.2.2.2.2.2
      have c13 : w5.cell? ⟨g, 13, none⟩ = some (.int .i64 x.id) := by rw [H6.out.2.cell 13]; exact (sp_at OK.out).2.2.1
      have c32 : w5.cell? ⟨g, 32, none⟩ = some (.int .u32 x.frm) := by rw [H6.out.2.cell 32]; exact (sp_at OK.out).2.2.2.2.2.1
      have c14 : w5.cell? ⟨g, 14, none⟩ = some (.int .i64 x.now) := by rw [H6.out.2.cell 14]; exact (sp_at OK.out).2.2.2.1
      refine seq_hid fun R hR => ?_
      by_cases k0 : x.k = 0
      · rw [k0] at c0
        clear c36 c32
        by_cases s1 : x.ac.kind = 1
        · rw [s1] at c1
          go_wp2_with fail
          go_roundw
          case rel => exact ⟨k + 1, ms, by go_num, by omega, H6.out.1⟩
          case measure => simp [intOf]; omega
        have s2 : (x.ac.kind == 1) = false := by simpa using s1
        have HAs : Hid (∀ j u, (asL x.ac)[j]? = some u → w5.cell? ((⟨g, 1, none⟩ : Addr).add j) = some u) := H6.out.2.asc
        obtain ⟨E, hE⟩ : ∃ E, adE ms x.ac x.id = E := ⟨_, rfl⟩
        obtain ⟨I, hI⟩ : ∃ I, adN ms x.ac x.id = I := ⟨_, rfl⟩
        have HA : Hid (Calls Try.prog 15 #[.pointer (some ⟨q, 0, none⟩), .agg (asL x.ac).toArray, .int .i64 x.id, .int .i64 x.now] w5 fun e w' => ∃ b, e = .returned (.tuple #[.int .i64 I, .int .i64 E]) ∧ Bd w w' q (adT ms x.ac x.id x.now b) xs gc cf) := by
          refine (add_any q ms x.ac x.id x.now w5 H6.out.1.tw.tb (i64_low OK.out.wn)).mono ?_
          rintro e w' ⟨b, rfl, a1, a2, a3⟩
          exact ⟨b, by rw [hI, hE], H6.out.1.tw.ad a1 a2 a3 OK.out.wk, H6.out.1.bp.ad H6.out.1.tw.tb.len H6.out.1.tw.tb.ids _ _ _ _⟩
        by_cases hE0 : E = 0
        · subst hE0
          obtain ⟨n2, hn2⟩ : ∃ n2, n2 = n + 1 := ⟨_, rfl⟩
          have HR2 : Hid (∀ b, (rowsOf (adT ms x.ac x.id x.now b)).length = n2) := fun b => by rw [hn2, ← HN.out]; exact (ad_rows H6.out.1.tw.tb.len x.ac x.id x.now b hE).1
          have hw2 : wrap64 ((n : Int) + 1) = (n2 : Int) := by unfold wrap64; omega
          have hw3 : IntKind.i64.wrap ((n : Int) + 1) = (n2 : Int) := by rw [IntWalk.i64_left]; exact hw2
          clear hn2
          have i1 : 1 ≤ I := by rw [← hI]; exact (ad_rows H6.out.1.tw.tb.len x.ac x.id x.now 0 hE).2.1
          have i2 : I ≤ 16 := by rw [← hI]; exact (ad_rows H6.out.1.tw.tb.len x.ac x.id x.now 0 hE).2.2
          clear hE hI
          go_upto_region 14 with (first
            | (refine step_ldat 41 _ rfl rfl ⟨g, 1, none⟩ (by rfl) (asL x.ac) _ Try.underlying41 rfl (by kernel_rfl) HAs.out ?_)
            | (go_at_call 15; refine HA.out.mono ?_; rintro e w6 ⟨b, rfl, h6⟩; have H7 : Hid (Bd w w6 q (adT ms x.ac x.id x.now b) xs gc cf) := h6; clear h6))
          have j1 : decide (I < 1) = false := decide_eq_false (by omega)
          have j2 : decide (16 < I) = false := decide_eq_false (by omega)
          clear i1 i2 hn16 s2 s1 HA c0 c1 c13 c14
          go_wp2_with (go_at_call 14; refine (list_len q _ n2 (HR2.out b) w6 H7.out.tw.tb).mono ?_; rintro e w7 ⟨ao7, cap7, rfl, hb7⟩; have H8 : Hid (Bd w w7 q (adT ms x.ac x.id x.now b) xs gc cf) := H7.out.below hb7; clear hb7)
          rw [hR.out]
          clear hR
          refine bd_tail (by kernel_rfl) [] w _ q gc (adT ms x.ac x.id x.now b) xs cf av ls mc _ H8.out HC.out.1 HC.out.2.1 HX16.out ?_
          intro W' x4 x13 x14 x15 x17 x18 x19 x20 x21 x118 x119 x120 x121 x122 x123 x124 x125 x126 x127 x128 x129 x130 x131 x132 x133 x134 x135 x136 x137 x138 x139 x140 x141 x142 x143 x144 x145 x146 x147 x148 x149 x150 x151 x152 x153 x154 x155 x156 x157 x158 x159 x160 x161 x162 x163 x164 x165 x166 x167 x168 x169 x170 x171 x172 x173 x174 x175 x176 x177 x178 x179 x180 x181 x182 x183 x184 x185 x186 x187 x188 x189 x190 x191 x192 x193 x194 x195 x196 x197 x198 x199 x200 x201 x202 x203 x204 x205 x206 x207 x208 x209 x210 x211 x212 x213 x214 hBd
          have HBd : Hid (Bd w W' q (adT ms x.ac x.id x.now b) xs gc cf) := hBd
          clear hBd
          go_wp2_with fail
          go_roundw
          case rel => exact ⟨k + 1, _, by go_num, by omega, HBd⟩
          case measure => simp [intOf]; omega
        · have hE1 : (E == 0) = false := by simpa using hE0
          have hE2 : (E != 0) = true := by simpa using hE0
          have hsame : ∀ b, adT ms x.ac x.id x.now b = ms := fun b => ad_same _ _ _ _ (by rw [hE]; exact hE0)
          have HA2 : Hid (Calls Try.prog 15 #[.pointer (some ⟨q, 0, none⟩), .agg (asL x.ac).toArray, .int .i64 x.id, .int .i64 x.now] w5 fun e w' => e = .returned (.tuple #[.int .i64 I, .int .i64 E]) ∧ Bd w w' q ms xs gc cf) := by
            refine HA.out.mono ?_
            rintro e w' ⟨b, rfl, h6⟩
            rw [hsame b] at h6
            exact ⟨rfl, h6⟩
          clear hE hI hsame HA
          go_wp2_with (first
            | (refine step_ldat 41 _ rfl rfl ⟨g, 1, none⟩ (by rfl) (asL x.ac) _ Try.underlying41 rfl (by kernel_rfl) HAs.out ?_)
            | (go_at_call 15; refine HA2.out.mono ?_; rintro e w6 ⟨rfl, h6⟩; have H7 : Hid (Bd w w6 q ms xs gc cf) := h6; clear h6)
            | (go_at_call 14; refine (list_len q ms n HN.out w6 H7.out.tw.tb).mono ?_; rintro e w7 ⟨ao7, cap7, rfl, hb7⟩; have H8 : Hid (Bd w w7 q ms xs gc cf) := H7.out.below hb7; clear hb7))
          rw [hR.out]
          clear hR
          refine bd_tail (by kernel_rfl) [] w _ q gc ms xs cf av ls mc _ H8.out HC.out.1 HC.out.2.1 HX16.out ?_
          intro W' x4 x13 x14 x15 x17 x18 x19 x20 x21 x118 x119 x120 x121 x122 x123 x124 x125 x126 x127 x128 x129 x130 x131 x132 x133 x134 x135 x136 x137 x138 x139 x140 x141 x142 x143 x144 x145 x146 x147 x148 x149 x150 x151 x152 x153 x154 x155 x156 x157 x158 x159 x160 x161 x162 x163 x164 x165 x166 x167 x168 x169 x170 x171 x172 x173 x174 x175 x176 x177 x178 x179 x180 x181 x182 x183 x184 x185 x186 x187 x188 x189 x190 x191 x192 x193 x194 x195 x196 x197 x198 x199 x200 x201 x202 x203 x204 x205 x206 x207 x208 x209 x210 x211 x212 x213 x214 hBd
          have HBd : Hid (Bd w W' q ms xs gc cf) := hBd
          clear hBd
          go_wp2_with fail
          go_roundw
          case rel => exact ⟨k + 1, _, by go_num, by omega, HBd⟩
          case measure => simp [intOf]; omega
      have k01 : (x.k == 0) = false := by simpa using k0
      by_cases k3 : x.k = 3
      · rw [k3] at c0
        clear c36 c32 c13 c1 k01 k0
        have HX3 : Hid (Calls Try.prog 16 #[.pointer (some ⟨q, 0, none⟩), .int .i64 x.now] w5 fun e w' => ∃ T' ao cap l, e = .returned (.slice ao l cap) ∧ Bd w w' q T' xs gc cf ∧ l + (rowsOf T').length = n) := by
          refine (expire_any q ms x.now w5 H6.out.1.tw.tb).mono ?_
          rintro e w' ⟨T', v, rfl, a1, a2, a3, a4⟩
          obtain ⟨ao, cap, rfl⟩ := or_len a3.out
          refine ⟨T', ao, cap, _, rfl, ⟨H6.out.1.tw.ex a2.out a1.out a4.out, H6.out.1.bp.ex a1.out⟩, ?_⟩
          rw [← HN.out, rows_cnt, rows_cnt]
          have := gn_cnt ms T' 0 a1.out.len a1.out.sub
          unfold intL
          rw [List.length_map]
          exact this
        go_upto_region 18 with (go_at_call 16; refine HX3.out.mono ?_; rintro e w6 ⟨T', ao6, cap6, l6, rfl, h6, h6'⟩; have H7 : Hid (Bd w w6 q T' xs gc cf ∧ l6 + (rowsOf T').length = n) := ⟨h6, h6'⟩; clear h6 h6')
        obtain ⟨n', hn'⟩ : ∃ n', (rowsOf T').length = n' := ⟨_, rfl⟩
        have HN' : Hid ((rowsOf T').length = n') := hn'
        have hnn : (n : Int) = (l6 : Int) + (n' : Int) := by have := H7.out.2; omega
        have hnn2 : wrap64 ((n : Int) - (l6 : Int)) = (n' : Int) := by unfold wrap64; omega
        clear hn' hnn
        go_wp2_with (go_at_call 14; refine (list_len q T' n' HN'.out w6 H7.out.1.tw.tb).mono ?_; rintro e w7 ⟨ao7, cap7, rfl, hb7⟩; have H8 : Hid (Bd w w7 q T' xs gc cf) := H7.out.1.below hb7; clear hb7)
        rw [hR.out]
        clear hR
        refine bd_tail (by kernel_rfl) [] w _ q gc T' xs cf av ls mc _ H8.out HC.out.1 HC.out.2.1 HX16.out ?_
        intro W' x4 x13 x14 x15 x17 x18 x19 x20 x21 x118 x119 x120 x121 x122 x123 x124 x125 x126 x127 x128 x129 x130 x131 x132 x133 x134 x135 x136 x137 x138 x139 x140 x141 x142 x143 x144 x145 x146 x147 x148 x149 x150 x151 x152 x153 x154 x155 x156 x157 x158 x159 x160 x161 x162 x163 x164 x165 x166 x167 x168 x169 x170 x171 x172 x173 x174 x175 x176 x177 x178 x179 x180 x181 x182 x183 x184 x185 x186 x187 x188 x189 x190 x191 x192 x193 x194 x195 x196 x197 x198 x199 x200 x201 x202 x203 x204 x205 x206 x207 x208 x209 x210 x211 x212 x213 x214 hBd
        have HBd : Hid (Bd w W' q T' xs gc cf) := hBd
        clear hBd
        go_wp2_with fail
        go_roundw
        case rel => exact ⟨k + 1, _, by go_num, by omega, HBd⟩
        case measure => simp [intOf]; omega
      have k31 : (x.k == 3) = false := by simpa using k3
      by_cases k6 : x.k = 6
      · rw [k6] at c0
        clear k01 k0 k31 k3 c1
        have HPk : Hid (∀ j u, x.pk[j]? = some u → w5.cell? ((⟨g, 15, none⟩ : Addr).add j) = some u) := H6.out.2.pkt
        have HPl : Hid ((Try.prog.info? 47).map (·.size) = some x.pk.length) := by show _ = _; rw [OK.out.pf.len]; kernel_rfl
        have HM : Hid (Calls Try.prog 17 #[.pointer (some ⟨q, 0, none⟩), .int .i64 x.act, .int .i64 x.id, .agg x.pk.toArray, .int .u32 x.frm, .int .i64 x.now] w5 fun e w' => ∃ b r, e = .returned r ∧ Bd w w' q (moT ms x.act x.id x.poll x.key x.frm x.now b) xs gc cf) := by
          refine (mobilise_any q ms x.pk x.act x.id x.mode x.poll x.key x.frm x.now w5 H6.out.1.tw.tb OK.out.pf (i64_low OK.out.wn)).mono ?_
          rintro e w' ⟨b, rfl, a1, a2, a3⟩
          exact ⟨b, _, rfl, H6.out.1.tw.mo a1 a2 a3, H6.out.1.bp.mo H6.out.1.tw.tb.len H6.out.1.tw.tb.ids _ _ _ _ _ _ _⟩
        go_wp2_with (first
          | (refine step_ldat 47 _ rfl rfl ⟨g, 15, none⟩ (by rfl) x.pk _ Try.underlying47 rfl HPl.out HPk.out ?_)
          | (go_at_call 17; refine HM.out.mono ?_; rintro e w6 ⟨b, r, rfl, h6⟩; have H8 : Hid (Bd w w6 q (moT ms x.act x.id x.poll x.key x.frm x.now b) xs gc cf) := h6; clear h6))
        rw [hR.out]
        clear hR
        refine bd_tail (by kernel_rfl) [] w _ q gc (moT ms x.act x.id x.poll x.key x.frm x.now b) xs cf av ls mc _ H8.out HC.out.1 HC.out.2.1 HX16.out ?_
        intro W' x4 x13 x14 x15 x17 x18 x19 x20 x21 x118 x119 x120 x121 x122 x123 x124 x125 x126 x127 x128 x129 x130 x131 x132 x133 x134 x135 x136 x137 x138 x139 x140 x141 x142 x143 x144 x145 x146 x147 x148 x149 x150 x151 x152 x153 x154 x155 x156 x157 x158 x159 x160 x161 x162 x163 x164 x165 x166 x167 x168 x169 x170 x171 x172 x173 x174 x175 x176 x177 x178 x179 x180 x181 x182 x183 x184 x185 x186 x187 x188 x189 x190 x191 x192 x193 x194 x195 x196 x197 x198 x199 x200 x201 x202 x203 x204 x205 x206 x207 x208 x209 x210 x211 x212 x213 x214 hBd
        have HBd : Hid (Bd w W' q (moT ms x.act x.id x.poll x.key x.frm x.now b) xs gc cf) := hBd
        clear hBd
        go_wp2_with fail
        go_roundw
        case rel => exact ⟨k + 1, _, by go_num, by omega, HBd⟩
        case measure => simp [intOf]; omega
      · have k61 : (x.k == 6) = false := by simpa using k6
        go_wp2_with fail
        rw [hR.out]
        clear hR
        refine bd_tail (by kernel_rfl) [] w _ q gc ms xs cf av ls mc _ H6.out.1 HC.out.1 HC.out.2.1 HX16.out ?_
        intro W' x4 x13 x14 x15 x17 x18 x19 x20 x21 x118 x119 x120 x121 x122 x123 x124 x125 x126 x127 x128 x129 x130 x131 x132 x133 x134 x135 x136 x137 x138 x139 x140 x141 x142 x143 x144 x145 x146 x147 x148 x149 x150 x151 x152 x153 x154 x155 x156 x157 x158 x159 x160 x161 x162 x163 x164 x165 x166 x167 x168 x169 x170 x171 x172 x173 x174 x175 x176 x177 x178 x179 x180 x181 x182 x183 x184 x185 x186 x187 x188 x189 x190 x191 x192 x193 x194 x195 x196 x197 x198 x199 x200 x201 x202 x203 x204 x205 x206 x207 x208 x209 x210 x211 x212 x213 x214 hBd
        have HBd : Hid (Bd w W' q ms xs gc cf) := hBd
        clear hBd
        go_wp2_with fail
        go_roundw
        case rel => exact ⟨k + 1, _, by go_num, by omega, HBd⟩
        case measure => simp [intOf]; omega
    · go_wp2_with fail
      rw [hQ.out]
      go_ret
      exact ⟨rfl, HI.out.tw.be⟩
end Go.Proofs.Ytnjdmkgkpdebdaa
