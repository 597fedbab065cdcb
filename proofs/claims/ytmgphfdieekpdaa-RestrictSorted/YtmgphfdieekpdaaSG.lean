/- RestrictSorted. -/
import Derived.Test.YtmgphfdieekpdaaSD
import Derived.Test.YtmgphfdieekpdaaSE
import Derived.Test.YtmgphfdieekpdaaSF
import Derived.Test.YtmgphfdieekpdaaRV
import Derived.Test.YtmgphfdieekpdaaRS
import Derived.Deep.RegionLawGrows
import Derived.Deep.RegionHeldLaw
namespace Go.Proofs.Ytmgphfdieekpdaa
open Go Go.RowKit Go.Sort
theorem jn_addr (P : Int → Prop) (ys : List Ru) (h : ∀ a ∈ ys, P a.addr) : ∀ a ∈ jn ys, P a.addr := by
  have aux : ∀ (zs js : List Ru), (∀ a ∈ js, P a.addr) → (∀ a ∈ zs, P a.addr) → ∀ a ∈ zs.foldl jnS js, P a.addr := by
    intro zs
    induction zs with
    | nil => intro js hj _; exact hj
    | cons z t ih =>
      intro js hj hz
      rw [List.foldl_cons]
      refine ih _ ?_ (fun a ha => hz a (List.mem_cons_of_mem _ ha))
      by_cases h0 : js = []
      · subst h0; intro a ha; rw [jnS_nil, List.mem_singleton] at ha; rw [ha]; exact hz z (List.mem_cons_self ..)
      · rw [jnS_last js h0]
        split
        · intro a ha
          rcases List.mem_append.1 ha with h1 | h1
          · exact hj a (List.dropLast_subset _ h1)
          · rw [List.mem_singleton] at h1
            have h9 : P (js.getLast h0).addr := hj _ (List.getLast_mem h0)
            rw [h1]; exact h9
        · intro a ha
          rcases List.mem_append.1 ha with h1 | h1
          · exact hj a h1
          · rw [List.mem_singleton] at h1; rw [h1]; exact hz z (List.mem_cons_self ..)
  exact aux ys [] (by simp) h
/-- the second time -/
theorem sr_again {xs : List Ru} {w' : World} {B : Nat} {v : Value} {er : Int} (h : srR xs w' B v er) (hl : xs.length ≤ 32) (hok : allOk xs) (hs : xs.Pairwise ltK) : er = 0 ∧ OR w' B 26 3 v (xs.map ruL) := by
  rcases h with ⟨_, h1, _⟩ | ⟨_, _, h1, _⟩ | ⟨h1, _, _, ys, hp, hy, ho⟩
  · omega
  · exact absurd hok h1
  · have e := strict_perm xs ys hp hs hy
    rw [e, jn_same xs hs] at ho
    exact ⟨h1, ho⟩
def u32L (us : List Int) : List (List Value) := us.map fun p => [Value.int .u32 p]
theorem tiU : TI 36 24 1 4 := by
  refine ⟨Try.underlying36, ?_, by decide⟩
  have h : (Try.prog.info? 24).map (fun i => (i.zero, i.size, i.bytes)) = some (some (.int .u32 0), 1, 4) := by kernel_rfl
  cases hi : Try.prog.info? 24 with
  | none => rw [hi] at h; cases h
  | some i =>
    rw [hi] at h
    simp at h
    exact ⟨i, _, rfl, h.1, h.2.1, h.2.2, rfl⟩
theorem u32L_flat (us : List Int) : (u32L us).flatten = us.map (Value.int .u32) := by
  unfold u32L
  induction us with
  | nil => rfl
  | cons a t ih => simp only [List.map_cons, List.flatten_cons, ih]; rfl
theorem cells4 (U : World) (a b c d : Value) (o : TypeId) : ∀ j u, [a, b, c, d][j]? = some u → (U.alloc (.cells #[a, b, c, d] o)).cell? ((⟨U.heap.size, 0, none⟩ : Addr).add j) = some u := fun j u hu => by
  rw [add_own, (Bk.new U _ o).cell j]
  have : (#[a, b, c, d] : Array Value)[j]? = [a, b, c, d][j]? := by simp
  rw [this]; exact hu
theorem ix_u {ao : Option Addr} {ad : Addr} (n cap k : Nat) (h : ao = some ad) (hk : (k : Int) < n) (w : World) : Sem.run Try.prog (Instr.indexAt 36 (.slice ao n cap) (.int .i64 (k : Int))) w = .ok (.pointer (some (ad.add k))) w := by
  subst h
  have u := Try.underlying36
  have c3 : Try.prog.cellsOf 24 = 1 := by kernel_rfl
  have h0 : (0 : Int) ≤ k := Int.natCast_nonneg k
  go_simp
theorem rk_cells1 {N : Nat} {w w' : World} {vo : Option Addr} {n vc : Nat} {ws : List Int} (h : Rk N w 1 (.slice vo n vc) (u32L ws)) (hb : Below N w w') : ∀ b, vo = some b → ∀ j u, (ws.map (Value.int .u32))[j]? = some u → w'.cell? (b.add j) = some u := by
  intro b hvo j u hu
  obtain ⟨ao, cap, h1, h2, h3⟩ := h
  injection h1 with e1 _ _
  have hj : j < ws.length := by
    rcases Nat.lt_or_ge j ws.length with h | h
    · exact h
    · rw [List.getElem?_eq_none (by rw [List.length_map]; exact h)] at hu; cases hu
  obtain ⟨ad, g1, g2, g3⟩ := h3 j (by unfold u32L; rw [List.length_map]; exact hj)
  obtain rfl : ad = b := by rw [← e1, hvo] at g1; exact (Option.some.inj g1).symm
  have h5 := g3 0 u (by
    unfold u32L
    rw [List.getD_eq_getElem?_getD, List.getElem?_map, List.getElem?_eq_getElem hj]
    rw [List.getElem?_map, List.getElem?_eq_getElem hj] at hu
    simpa using hu)
  rw [Nat.mul_one, Nat.add_zero] at h5
  rw [hb.cell (p := ad.add j) (by rw [add_block]; exact g2)]; exact h5
theorem grown_below {B : Nat} {w0 w w' : World} (h : Below B w0 w) (hg : w.grownBy w' none) (hB : B ≤ w.heap.size) : Below B w0 w' :=
  h.grown hg hB (fun k e => by cases e)
theorem or4 {w' : World} {N n : Nat} {v' : Value} {ws : List Int} {a b c d : Int} (hn : n = ws.length) (h : w'.ownsRow N 24 1 v' (n + 4) (ws.map (Value.int .u32) ++ [.int .u32 a, .int .u32 b, .int .u32 c, .int .u32 d])) : ∃ vo vc, v' = .slice vo (n + 4) vc ∧ n + 4 ≤ vc ∧ Rk w'.heap.size w' 1 (.slice vo (n + 4) vc) (u32L (ws ++ [a, b, c, d])) ∧ Ra (.slice vo (n + 4) vc) := by
  have e : (u32L (ws ++ [a, b, c, d])).length = n + 4 := by unfold u32L; simp [hn]
  have ho : OR w' N 24 1 v' (u32L (ws ++ [a, b, c, d])) := by
    refine ⟨?_, fun r hr => by unfold u32L at hr; obtain ⟨p, _, rfl⟩ := List.mem_map.1 hr; rfl⟩
    rw [u32L_flat, e]; simpa using h
  obtain ⟨vo, vc, hv, hc, -⟩ := ho.rk
  rw [e] at hv hc
  subst hv
  exact ⟨vo, vc, rfl, hc, ho.rk, ho.ra⟩
theorem hnone4 {vo : Option Addr} {n vc : Nat} (h : Ra (.slice vo n vc)) (hc : n ≤ vc) : vo = none → n = 0 ∧ n = 0 := by
  intro e; subst e
  have := h _ _ rfl
  omega
theorem cells4' (wr : World) (o1 : Obj) (a b c d : Value) (o : TypeId) : ∀ j u, [a, b, c, d][j]? = some u → (((wr.alloc o1).alloc (.cells #[a, b, c, d] o)).drew).cell? ((⟨wr.heap.size + 1, 0, none⟩ : Addr).add j) = some u := by
  have h := cells4 (wr.alloc o1) a b c d o
  have e : (wr.alloc o1).heap.size = wr.heap.size + 1 := by simp
  rw [e] at h
  exact h
theorem u32_wrap (x : Int) : U32 (IntKind.u32.wrap x) := by unfold U32; rw [IntKind.wrap_u32]; omega
theorem u32_bx (a b : Int) : U32 (bits BinOp.xor IntKind.u32 a b) := u32_wrap _
theorem u32_app {ws : List Int} {a b c d : Int} (h : ∀ p ∈ ws, U32 p) (ha : U32 a) (hb : U32 b) (hc : U32 c) (hd : U32 d) : ∀ p ∈ ws ++ [a, b, c, d], U32 p := by
  intro p hp
  simp only [List.mem_append, List.mem_cons, List.not_mem_nil, or_false] at hp
  rcases hp with h1 | rfl | rfl | rfl | rfl
  · exact h p h1
  · exact ha
  · exact hb
  · exact hc
  · exact hd
theorem one4 (a b c d : Int) : ∀ u ∈ [Value.int .u32 a, .int .u32 b, .int .u32 c, .int .u32 d], u.oneCell' = true := by
  intro u hu
  simp only [List.mem_cons, List.not_mem_nil, or_false] at hu
  rcases hu with rfl | rfl | rfl | rfl <;> rfl
theorem or4' {w' : World} {N n : Nat} {v' : Value} {ws : List Int} {a b c d : Int} (hn : n = ws.length) (hU : ∀ p ∈ ws, U32 p) (ha : U32 a) (hb : U32 b) (hc : U32 c) (hd : U32 d) (h : w'.ownsRow N 24 1 v' (n + 4) (ws.map (Value.int .u32) ++ [.int .u32 a, .int .u32 b, .int .u32 c, .int .u32 d])) : ∃ vo vc, v' = .slice vo (n + 4) vc ∧ n + 4 ≤ vc ∧ Hid (∃ ws' : List Int, Rk w'.heap.size w' 1 (.slice vo (n + 4) vc) (u32L ws') ∧ Ra (.slice vo (n + 4) vc) ∧ (∀ p ∈ ws', U32 p) ∧ n + 4 = ws'.length) := by
  obtain ⟨vo, vc, h1, h2, h3, h4⟩ := or4 hn h
  exact ⟨vo, vc, h1, h2, _, h3, h4, u32_app hU ha hb hc hd, by simp [hn]⟩
theorem Rk.u1 {N : Nat} {w : World} {vo : Option Addr} {n vc : Nat} {ws : List Int} (h : Rk N w 1 (.slice vo n vc) (u32L ws)) (j : Nat) (hj : j < ws.length) : ∃ ad, vo = some ad ∧ ad.block < N ∧ w.cell? (ad.add j) = some (.int .u32 ws[j]) := by
  obtain ⟨ao, cap, h1, h2, h3⟩ := id h
  injection h1 with e1 _ _
  obtain ⟨ad, g1, g2, -⟩ := h3 j (by unfold u32L; rw [List.length_map]; exact hj)
  have e : vo = some ad := by rw [e1]; exact g1
  exact ⟨ad, e, g2, rk_cells1 h (Below.refl _ _) ad e j _ (by rw [List.getElem?_map, List.getElem?_eq_getElem hj]; rfl)⟩
set_option maxHeartbeats 2000000 in
theorem RestrictSorted_row (v uv : Value) (xs : List Ru) (us : List Int) (w : World) (ha : Rk w.heap.size w 3 v (xs.map ruL)) (hra : Ra' v) (hb : ∀ a ∈ xs, U32 a.addr ∧ I64 a.bits ∧ I64 a.flags) (hl : xs.length * 24 ≤ 140737488351232) (hu : Rk w.heap.size w 1 uv (us.map fun p => [Value.int .u32 p])) (hua : Ra' uv) (hub : ∀ p ∈ us, U32 p) (hul : us.length * 4 ≤ 140737488351232) :
    Calls Try.prog 5 #[v, uv] w fun e w' => e = .returned (.bool true) ∧ Below w.heap.size w w' := by
  have hw : ∀ a ∈ xs, 0 ≤ a.addr ∧ a.addr < 4294967296 := fun a h => (hb a h).1
  have HA : Hid (Rk w.heap.size w 3 v (xs.map ruL) ∧ Ra v ∧ (∀ a ∈ xs, 0 ≤ a.addr ∧ a.addr < 4294967296) ∧ xs.length ≤ 140737488355328) := ⟨ha, hra, hw, by omega⟩
  have HU : Hid (Rk w.heap.size w 1 uv (u32L us) ∧ Ra uv ∧ (∀ p ∈ us, U32 p) ∧ us.length * 4 ≤ 140737488351232) := ⟨hu, hua, hub, hul⟩
  obtain ⟨ao, cap, hav, -, -⟩ := ha.ru
  obtain ⟨uo, ucap, huv, -, -⟩ := hu
  subst hav huv
  clear ha hra hb hl hua hub hul hw
  rw [List.length_map] at HU ⊢
  obtain ⟨L, hL⟩ : ∃ L, L = xs.length := ⟨_, rfl⟩
  obtain ⟨M, hM⟩ : ∃ M, M = us.length := ⟨_, rfl⟩
  rw [← hL] at HA ⊢
  rw [← hM] at HU ⊢
  have HL : Hid (L = xs.length ∧ M = us.length) := ⟨hL, hM⟩
  clear hL hM
  go_enter Try.func5, Try.ntmps5
  go_wp2_with fail
  refine (shown_any w).mono ?_
  rintro e w1 ⟨rfl, hb1⟩
  have HB1 : Hid (Below w.heap.size w w1) := hb1
  clear hb1
  go_wp2_with fail
  refine (sort_any w.heap.size _ xs w1 HB1.out.size (HA.out.1.below HB1.out (Nat.le_refl _)) HA.out.2.1 HA.out.2.2.1 (by have := HA.out.2.2.2; have := HL.out.1; omega)).mono ?_
  rintro e w2 ⟨v2, er2, rfl, hr2, hb2⟩
  have HB2 : Hid (Below w.heap.size w w2) := HB1.out.trans (hb2.mono HB1.out.size)
  rcases hr2 with ⟨rfl, _, rfl⟩ | ⟨rfl, _, _, rfl⟩ | ⟨rfl, hl32, hok, ys, hp, hs, ho2⟩
  · clear hb2
    go_wp2
    go_ret
    exact ⟨rfl, HB2.out⟩
  · clear hb2
    go_wp2
    go_ret
    exact ⟨rfl, HB2.out⟩
  · obtain ⟨zs, hzs⟩ : ∃ zs, zs = jn ys := ⟨_, rfl⟩
    have hok' : ∀ a ∈ ys, okB a = true := fun a h => hok a (hp.mem_iff.1 h)
    have HZ : Hid (zs.length ≤ 32 ∧ allOk zs ∧ zs.Pairwise ltK ∧ (∀ a ∈ zs, 0 ≤ a.addr ∧ a.addr < 4294967296) ∧ (∀ x, mtF x zs = mtF x xs)) := by
      refine ⟨?_, ?_, ?_, ?_, ?_⟩
      · rw [hzs]; have := jn_len ys; have := hp.length_eq; omega
      · rw [hzs]; exact jn_ok ys hok'
      · rw [hzs]; exact jn_strict ys hs
      · rw [hzs]; exact jn_addr (fun t => 0 ≤ t ∧ t < 4294967296) ys (fun a h => HA.out.2.2.1 a (hp.mem_iff.1 h))
      · intro x; rw [hzs, mtF_jn x ys hok', mtF_perm x hp]
    rw [← hzs] at ho2
    have HO2 : Hid (OR w2 w1.heap.size 26 3 v2 (zs.map ruL) ∧ L ≤ 32) := ⟨ho2, by rw [HL.out.1]; exact hl32⟩
    obtain ⟨zo, zc, hv2, -, -⟩ := ho2.rk
    rw [List.length_map] at hv2
    subst hv2
    clear hb2 hl32 hok hp hs ho2 hok' hzs
    go_wp2_with fail
    refine (sort_any w2.heap.size _ zs w2 (Nat.le_refl _) HO2.out.1.rk HO2.out.1.ra HZ.out.2.2.2.1 (by have := HZ.out.1; omega)).mono ?_
    rintro e w3 ⟨v3, er3, rfl, hr3, hb3⟩
    obtain ⟨her, ho3⟩ := sr_again hr3 HZ.out.1 HZ.out.2.1 HZ.out.2.2.1
    subst her
    have HB3 : Hid (Below w.heap.size w w3) := HB2.out.trans (hb3.mono HB2.out.size)
    have HO3 : Hid (OR w3 w1.heap.size 26 3 (.slice zo zs.length zc) (zs.map ruL) ∧ OR w3 w2.heap.size 26 3 v3 (zs.map ruL)) := ⟨HO2.out.1.below hb3 (Nat.le_refl _), ho3⟩
    clear hb3 hr3 ho3
    go_wp2_with fail
    refine (rules_same w3.heap.size _ _ zs w3 HO3.out.1.rk HO3.out.2.rk (by have := HZ.out.1; omega)).mono ?_
    rintro e w4 ⟨rfl, n4, hw4⟩
    have HB4 : Hid (Below w.heap.size w w4) := by rw [hw4]; exact below_drewN HB3.out _
    have HR4 : Hid (Rk w4.heap.size w4 3 (.slice zo zs.length zc) (zs.map ruL)) := by rw [hw4]; exact HO3.out.1.rk
    clear hw4 HO3 HB3
    have l32 : (L : Int) ≤ 32 := by have := HO2.out.2; omega
    have HMB : Hid (M * 4 ≤ 140737488351232) := by have := HU.out.2.2.2; have := HL.out.2; show _ ≤ _; omega
    have mb : (M : Int) * 4 ≤ 140737488351232 := by have := HMB.out; omega
    go_wp2_with fail
    go_loopw [1, 40] (fun av i wr => ∃ (k M1 : Nat) (vo : Option Addr) (vc : Nat), i = .int .i64 (k : Int) ∧ av = .slice vo M1 vc ∧ (k : Int) ≤ L ∧ (M1 : Int) ≤ M + 4 * k ∧ (M1 : Int) ≤ vc ∧ Hid (∃ ws : List Int, Rk wr.heap.size wr 1 (.slice vo M1 vc) (u32L ws) ∧ Ra (.slice vo M1 vc) ∧ (∀ p ∈ ws, U32 p) ∧ M1 = ws.length) ∧ Hid (Below w4.heap.size w4 wr)) (fun _ i _ => (L - intOf i).toNat)
    case atStart =>
      obtain ⟨uo', ucap', hu1, hu2, -⟩ := HU.out.1
      injection hu1 with _ hu3 hu4
      refine ⟨0, M, uo, ucap, by go_num, rfl, by omega, by omega, by omega, ⟨us, (HU.out.1.below HB4.out (Nat.le_refl _)).mono HB4.out.size, HU.out.2.1, HU.out.2.2.1, HL.out.2⟩, Below.refl _ _⟩
    case round =>
      obtain ⟨k, M1, vo, vc, rfl, rfl, hk, hM1, hvc, hO, hB⟩ := hrel
      have HB5 : Hid (Below w.heap.size w wr) := HB4.out.trans (hB.out.mono HB4.out.size)
      by_cases hlt : (k : Int) < L
      · have hkx : k < xs.length := by have := HL.out.1; omega
        obtain ⟨ad, g1, g2, g3⟩ := HA.out.1.at3 k hkx
        have hix : ∀ w, Sem.run Try.prog (Instr.indexAt 22 (.slice ao L cap) (.int .i64 (k : Int))) w = .ok (.pointer (some (ad.add (k * 3)))) w := ix_ru L cap k g1 hlt
        have HC : Hid (∀ j u, (ruL xs[k])[j]? = some u → wr.cell? ((ad.add (k * 3)).add j) = some u) := fun j u hu => by
          rw [HB5.out.cell (p := (ad.add (k * 3)).add j) (by rw [add_block, add_block]; exact g2)]
          exact g3 j u hu
        obtain ⟨E, hE⟩ : ∃ E, E = xs[k] := ⟨_, rfl⟩
        obtain ⟨A, hA0⟩ : ∃ A, A = ad.add (k * 3) := ⟨_, rfl⟩
        rw [← hA0] at hix HC
        rw [← hE] at HC
        have hab := HA.out.2.2.1 xs[k] (List.getElem_mem hkx)
        rw [← hE] at hab
        clear hA0 g1 g3 hE
        obtain ⟨x0, x1, x2⟩ := E
        unfold ruL at HC
        simp only at HC hab
        obtain ⟨x00, x01⟩ := hab
        have hvn : M1 ≤ vc := by omega
        obtain ⟨i0, z, hi, hz0, hz1, hz2, hz3⟩ := tiU.info
        have HI : Hid (Try.prog.info? 24 = some i0 ∧ i0.zero = some z ∧ i0.size = 1 ∧ i0.bytes = 4 ∧ z.cells.size = 1) := ⟨hi, hz0, hz1, hz2, hz3⟩
        clear hi hz0 hz1 hz2 hz3
        obtain ⟨ws, hws⟩ := hO.out
        have HW : Hid (Rk wr.heap.size wr 1 (.slice vo M1 vc) (u32L ws) ∧ Ra (.slice vo M1 vc) ∧ (∀ p ∈ ws, U32 p) ∧ M1 = ws.length) := hws
        clear hws
        go_wp2_with (refine step_ldat 26 _ (by rfl) (by rfl) A (by rfl) [.int .u32 x0, .int .i64 x1, .int .i64 x2] _ Try.underlying26 (by rfl) ru_info ?_ ?_; exact HC.out)
        have hsz : w4.heap.size ≤ wr.heap.size := hB.out.size
        go_region_held_law (fun w' => w'.cell? ⟨wr.heap.size, 0, none⟩ = some (.int .u32 x0)) (first | assumption | go_keep) ((refine step_append_grows (by rfl) _ _ 36 (by rfl) 24 i0 z 1 4 Try.underlying36 HI.out.1 HI.out.2.1 HI.out.2.2.1 HI.out.2.2.2.1 HI.out.2.2.2.2 (by decide) vo M1 M1 (ws.map (Value.int .u32)) (by rfl) (hnone4 HW.out.2.1 hvn) (by rw [List.length_map, Nat.mul_one]; exact HW.out.2.2.2.symm) (rk_cells1 HW.out.1 (by repeat' (first | with_reducible exact Below.refl _ _ | with_reducible refine Below.setCell ?_ (by first | (simp; done) | (simp; omega) | omega) _ | with_reducible refine below_drewN ?_ _ | with_reducible refine Below.drew ?_ | with_reducible refine Below.alloc ?_ (by first | (simp; done) | (simp; omega) | omega) _))) ⟨wr.heap.size + 1, 0, none⟩ 4 4 [.int .u32 x0, .int .u32 (IntKind.u32.wrap (x0 + 1)), .int .u32 (IntKind.u32.wrap (x0 - 1)), .int .u32 (bits BinOp.xor IntKind.u32 (if IntKind.u32.signed = true then -1 else IntKind.u32.max) x0)] (by rfl) (by rfl) (cells4' _ _ _ _ _ _ _) (one4 _ _ _ _) (by omega) (by unfold maxLen; omega) (by omega) ?_; intro v' w' hown hgrow; have hb6 := grown_below (B := w4.heap.size) (w0 := w4) (by repeat' (first | with_reducible exact Below.refl _ _ | with_reducible exact hB.out | with_reducible refine Below.setCell ?_ (by first | (simp; done) | (simp; omega) | omega) _ | with_reducible refine below_drewN ?_ _ | with_reducible refine Below.drew ?_ | with_reducible refine Below.alloc ?_ (by first | (simp; done) | (simp; omega) | omega) _)) hgrow (by first | (simp; done) | (simp; omega)); have hcl : w'.cell? ⟨wr.heap.size, 0, none⟩ = some (.int .u32 x0) := (by rw [(grown_below (Below.refl _ _) hgrow (Nat.le_refl _)).cell (by first | (simp; done) | (simp; omega))]; first | assumption | (simp; done)); have hU0 : U32 x0 := ⟨x00, x01⟩; obtain ⟨vo', vc', rfl, hc', HR⟩ := or4' HW.out.2.2.2 HW.out.2.2.1 hU0 (u32_wrap _) (u32_wrap _) (u32_bx _ _) hown; have HK : Hid (Below w4.heap.size w4 w') := hb6; clear hown hgrow hb6 hU0))
        all_goals (go_wp2; refine ⟨⟨k + 1, M1 + 4, vo', vc', by go_num, rfl, by omega, by omega, by omega, HR, HK⟩, by simp [intOf]; omega⟩)
      · obtain ⟨ws, hws⟩ := hO.out
        have HW : Hid (Rk wr.heap.size wr 1 (.slice vo M1 vc) (u32L ws) ∧ Ra (.slice vo M1 vc) ∧ (∀ p ∈ ws, U32 p) ∧ M1 = ws.length) := hws
        have HR5 : Hid (Rk wr.heap.size wr 3 (.slice zo zs.length zc) (zs.map ruL)) := (HR4.out.below hB.out (Nat.le_refl _)).mono hB.out.size
        clear hws
        obtain ⟨wa, rfl⟩ : ∃ wa, wa = wr := ⟨_, rfl⟩
        go_wp2_with fail
        go_loopw [66] (fun i wq => ∃ j : Nat, i = .int .i64 (j : Int) ∧ (j : Int) ≤ M1 ∧ Hid (Below wa.heap.size wa wq)) (fun i _ => (M1 - intOf i).toNat)
        case atStart => exact ⟨0, by go_num, by omega, Below.refl _ _⟩
        case round =>
          obtain ⟨j, rfl, hj, hB6⟩ := hrel
          have HB6 : Hid (Below w.heap.size w wr) := HB5.out.trans (hB6.out.mono HB5.out.size)
          by_cases hlt2 : (j : Int) < M1
          · have hjx : j < ws.length := by have := HW.out.2.2.2; omega
            obtain ⟨bd, g1, g2, g3⟩ := HW.out.1.u1 j hjx
            have hix : ∀ w, Sem.run Try.prog (Instr.indexAt 36 (.slice vo M1 vc) (.int .i64 (j : Int))) w = .ok (.pointer (some (bd.add j))) w := ix_u M1 vc j g1 hlt2
            have hX := HW.out.2.2.1 ws[j] (List.getElem_mem hjx)
            obtain ⟨X, hXe⟩ : ∃ X, X = ws[j] := ⟨_, rfl⟩
            rw [← hXe] at g3 hX
            rw [← hB6.out.cell (p := bd.add j) (by rw [add_block]; exact g2)] at g3
            obtain ⟨A, hA0⟩ : ∃ A, A = bd.add j := ⟨_, rfl⟩
            rw [← hA0] at hix g3
            have HX : Hid (0 ≤ X ∧ X < 4294967296) := hX
            clear hA0 g1 g2 hXe hX hjx
            go_wp2_with fail
            refine (match_any wa.heap.size _ zs X _ hB6.out.size (HR5.out.below hB6.out (Nat.le_refl _)) (by have := HZ.out.1; omega) HZ.out.2.2.2.1 HX.out.1 HX.out.2).mono ?_
            rintro e w7 ⟨rfl, hb7⟩
            have HB7 : Hid (Below wa.heap.size wa w7) := hB6.out.trans (hb7.mono hB6.out.size)
            clear hb7
            go_wp2_with fail
            refine (match_any w.heap.size _ xs X _ (HB5.out.trans (HB7.out.mono HB5.out.size)).size (HA.out.1.below (HB5.out.trans (HB7.out.mono HB5.out.size)) (Nat.le_refl _)) (by have := HL.out.1; omega) HA.out.2.2.1 HX.out.1 HX.out.2).mono ?_
            rintro e w8 ⟨rfl, hb8⟩
            have HB8 : Hid (Below wa.heap.size wa w8) := HB7.out.trans (hb8.mono HB7.out.size)
            clear hb8
            rw [HZ.out.2.2.2.2 X]
            go_wp2
            refine ⟨⟨j + 1, by go_num, by omega, HB8⟩, by simp [intOf]; omega⟩
          · go_wp2
            go_ret
            exact ⟨rfl, HB6.out⟩
end Go.Proofs.Ytmgphfdieekpdaa
