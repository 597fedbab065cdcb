/- Auth: rows of keys; hasID walked. -/
import Derived.Test.YtocimfhagkcnlaaDoorAuB
import Derived.Test.YtocimfhagkcnlaaDoorAuE
namespace Go.Proofs.YtocimfhagkcnlaaDoor
open Go Go.RowKit Go.Sort
set_option linter.unusedVariables false
/-- a key: its number, its kind, where its bytes lie -/
structure Kx where
  id : Int
  kd : Int
  ao : Option Addr
  n : Nat
  cap : Nat
def kxL (k : Kx) : List Value := [.int .i64 k.id, .int .i64 k.kd, .slice k.ao k.n k.cap]
def zKx : Kx := ⟨0, 0, none, 0, 0⟩
theorem kx_one (k : Kx) : (kxL k).toArray.all (·.oneCell') = true := by unfold kxL; simp [Value.oneCell']
theorem ix_Kx {ao : Option Addr} {ad : Addr} (n cap k : Nat) (h : ao = some ad) (hk : (k : Int) < n) (w : World) : Sem.run Tryd.prog (Instr.indexAt 39 (.slice ao n cap) (.int .i64 (k : Int))) w = .ok (.pointer (some (ad.add (k * 3)))) w := by
  have u' := Tryd.underlying39
  have c3 : Tryd.prog.cellsOf 33 = 3 := by kernel_rfl
  have h0 : (0 : Int) ≤ k := Int.natCast_nonneg k
  subst h
  go_simp
theorem kxs_read {N : Nat} {w : World} {v : Value} {l : List Kx} (h : Rk N w 3 v (l.map kxL)) : ∃ ao cap, v = .slice ao l.length cap ∧ l.length ≤ cap ∧ ∀ w' : World, (∀ p : Addr, p.block < N → w'.cell? p = w.cell? p) → ∀ (i : Nat) c, l[i]? = some c → ∃ ad, ao = some ad ∧ ad.block < N ∧ ∀ j u, (kxL c)[j]? = some u → w'.cell? ((ad.add (i * 3)).add j) = some u := by
  obtain ⟨ao, cap, hv, hc, hr⟩ := h
  rw [List.length_map] at hv hr hc
  refine ⟨ao, cap, hv, hc, fun w' hw i c hi => ?_⟩
  have hl : i < l.length := (List.getElem?_eq_some_iff.1 hi).1
  obtain ⟨ad, k1, k2, k3⟩ := hr i hl
  refine ⟨ad, k1, k2, fun j u hu => ?_⟩
  rw [hw _ (by rw [add_block, add_block]; exact k2), add_add]
  refine k3 j u ?_
  rw [getD_map' kxL l i hl]
  rw [List.getElem?_eq_getElem hl] at hi
  rw [Option.some.inj hi]; exact hu
def hasI (l : List Kx) (id : Int) : Bool := l.any fun k => k.id == id
set_option maxRecDepth 20000 in
set_option maxHeartbeats 1000000 in
theorem hasID_any (v : Value) (l : List Kx) (id : Int) (w : World) (N : Nat) (h : Rk N w 3 v (l.map kxL)) (hN : N ≤ w.heap.size) (hl : l.length ≤ 1000000) : Calls Tryd.prog 49 #[v, .int .i64 id] w fun e w' => e = .returned (.bool (hasI l id)) ∧ Below w.heap.size w w' := by
  obtain ⟨ao, cap, hx, hcap, hr⟩ := kxs_read h
  obtain ⟨n, hn⟩ : ∃ n, l.length = n := ⟨_, rfl⟩
  rw [hn] at hx hl
  have HR : Hid (∀ w', Below w.heap.size w w' → ∀ (i : Nat) c, l[i]? = some c → ∃ ad, ao = some ad ∧ ∀ j u, (kxL c)[j]? = some u → w'.cell? ((ad.add (i * 3)).add j) = some u) := fun w' hb i c hc => by
    obtain ⟨ad, h1, h2, h3⟩ := hr w' (fun p hp => hb.cell (by omega)) i c hc
    exact ⟨ad, h1, h3⟩
  have HN : Hid (l.length = n) := hn
  subst hx
  have hn3 : (n : Int) ≤ 1000000 := by omega
  obtain ⟨Z, hZ⟩ : ∃ Z, hasI l id = Z := ⟨_, rfl⟩
  have HZ : Hid (hasI l id = Z) := hZ
  rw [hZ]
  clear h hN hl hr hcap hn hZ
  go_enter Tryd.func49, Tryd.ntmps49
  refine post_hid fun Q hQ => ?_
  go_wp2_with fail
  go_loopw [6, 9] (fun _ i wr => ∃ k : Nat, i = .int .i64 k ∧ (k : Int) ≤ n ∧ Hid ((∀ (i : Nat) x, i < k → l[i]? = some x → x.id ≠ id) ∧ Below w.heap.size w wr)) (fun _ i _ => n - (intOf i).toNat)
  case atStart => exact ⟨0, rfl, by omega, fun i x hi => absurd hi (by omega), Below.refl _ _⟩
  case round =>
    obtain ⟨k, rfl, hk, HB⟩ := hrel
    by_cases hlt : (k : Int) < n
    · obtain ⟨c, hc⟩ : ∃ c, l[k]? = some c := ⟨_, List.getElem?_eq_getElem (by have := HN.out; omega)⟩
      obtain ⟨ad, g1, g3⟩ := HR.out wr HB.out.2 k c hc
      have hix := ix_Kx n cap k g1 hlt
      have HS : Hid (∀ j u, (kxL c)[j]? = some u → wr.cell? ((ad.add (k * 3)).add j) = some u) := g3
      have HK : Hid (l[k]? = some c) := hc
      clear g1 g3 hc
      go_upto_region 4 with (first
        | (refine step_ldat 33 _ rfl rfl (ad.add (k * 3)) (by rfl) (kxL c) _ Tryd.underlying33 rfl (by kernel_rfl) HS.out ?_)
        | (refine step_alL (by rfl) 33 rfl (kxL zKx).toArray (fun u => by kernel_rfl) ?_; intro w6 g H6)
        | (refine step_stL (by rfl) _ _ rfl g (kxL c).toArray (by rfl) (by rfl) (kxL zKx).toArray (by kernel_rfl) (by rfl) (kx_one c) H6.out.bk ?_; intro w7 H7))
      have H8 : Hid (Below w.heap.size w w7) := below_thru' HB.out.2 (H7.out.below H6.out.be H6.out.be.size (Nat.le_of_eq H6.out.at'.symm))
      have q0 : w7.cell? ⟨g, 0, none⟩ = some (.int .i64 c.id) := H7.out.bk.cell 0
      clear H6 H7 HS hix
      by_cases hid : c.id = id
      · have hb : (c.id == id) = true := by simpa using hid
        have HE : Hid (Z = true) := by
          show _ = _
          rw [← HZ.out]
          exact List.any_eq_true.2 ⟨c, List.mem_of_getElem? HK.out, hb⟩
        clear hid
        go_wp2_with fail
        rw [hQ.out]
        go_ret
        exact ⟨by rw [HE.out]; rfl, H8.out⟩
      · have hb : (c.id == id) = false := by simpa using hid
        have HF : Hid ((∀ (i : Nat) x, i < k + 1 → l[i]? = some x → x.id ≠ id) ∧ Below w.heap.size w w7) := by
          refine ⟨fun i x hi hx => ?_, H8.out⟩
          by_cases e : i = k
          · subst e
            rw [HK.out] at hx
            injection hx with hx
            subst hx
            exact hid
          · exact HB.out.1 i x (by omega) hx
        clear hid H8 HB HK
        go_wp2_with fail
        go_roundw
        case rel => exact ⟨k + 1, by go_num, by omega, HF.out⟩
        case measure => simp [intOf]; omega
    · have HE : Hid (Z = false) := by
        show _ = _
        rw [← HZ.out]
        unfold hasI
        rw [List.any_eq_false]
        intro x hx
        obtain ⟨i, hi, e⟩ := List.mem_iff_getElem.1 hx
        have := HB.out.1 i x (by have := HN.out; omega) (by rw [List.getElem?_eq_getElem hi, e])
        simpa using this
      go_wp2_with fail
      rw [hQ.out]
      go_ret
      exact ⟨by rw [HE.out]; rfl, HB.out.2⟩
end Go.Proofs.YtocimfhagkcnlaaDoor
