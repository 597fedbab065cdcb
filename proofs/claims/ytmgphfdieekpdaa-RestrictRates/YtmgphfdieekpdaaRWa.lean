/- Rates: what passes of an address, in lists of times. -/
import Derived.Test.YtmgphfdieekpdaaRR
namespace Go.Proofs.Ytmgphfdieekpdaa
open Go Go.RowKit
set_option linter.unusedVariables false
/-- times that may be: each is no less than the ones ahead; within any time not too many; no two too near -/
def Gd (cost mn : Int) (L : List Int) : Prop := ∀ (i : Nat) (y : Int), L[i]? = some y → (0 ≤ y ∧ y ≤ 419430400) ∧ (∀ (k : Nat) (x : Int), k ≤ i → L[k]? = some x → x ≤ y ∧ ((i : Int) - k + 1) * cost ≤ 8 * cost + (y - x)) ∧ (∀ x : Int, 0 < i → L[i - 1]? = some x → mn ≤ y - x)
theorem Gd.nil (cost mn : Int) : Gd cost mn [] := fun i y h => by simp at h
theorem Gd.snoc {cost mn : Int} {L : List Int} {t : Int} (h : Gd cost mn L) (hc : 0 ≤ cost) (t0 : 0 ≤ t) (t1 : t ≤ 419430400) (hk : ∀ (k : Nat) x, L[k]? = some x → x ≤ t ∧ ((L.length : Int) - k + 1) * cost ≤ 8 * cost + (t - x)) (hp : ∀ x, L[L.length - 1]? = some x → mn ≤ t - x) : Gd cost mn (L ++ [t]) := by
  intro i y hy
  rcases Nat.lt_or_ge i L.length with hi | hi
  · rw [List.getElem?_append_left hi] at hy
    obtain ⟨a, b, c⟩ := h i y hy
    refine ⟨a, fun k x hki hx => ?_, fun x hi0 hx => ?_⟩
    · rw [List.getElem?_append_left (by omega)] at hx
      exact b k x hki hx
    · rw [List.getElem?_append_left (by omega)] at hx
      exact c x hi0 hx
  · have hin : i = L.length := by
      rcases Nat.lt_or_ge i (L ++ [t]).length with h1 | h1
      · simp at h1; omega
      · rw [List.getElem?_eq_none h1] at hy; cases hy
    subst hin
    rw [List.getElem?_append_right (Nat.le_refl _), Nat.sub_self] at hy
    simp at hy
    subst hy
    refine ⟨⟨t0, t1⟩, fun k x hki hx => ?_, fun x hi0 hx => ?_⟩
    · rcases Nat.lt_or_ge k L.length with hkl | hkl
      · rw [List.getElem?_append_left hkl] at hx
        exact hk k x hx
      · have : k = L.length := by omega
        subst this
        rw [List.getElem?_append_right (Nat.le_refl _), Nat.sub_self] at hx
        simp at hx
        subst hx
        refine ⟨Int.le_refl _, ?_⟩
        rw [Int.sub_self, Int.zero_add, Int.one_mul, Int.sub_self]
        omega
    · rw [List.getElem?_append_left (by omega)] at hx
      exact hp x hx
/-- whoever is remembered, and what passed of it -/
structure Rv (cost mn now : Int) (xs : List Sn) (f : Int → List Int) : Prop where
  nd : (xs.map (·.addr)).Nodup
  ad : ∀ s ∈ xs, 0 ≤ s.addr ∧ s.addr < 32
  ok : ∀ s ∈ xs, Sok cost now s
  no : ∀ a, (∀ s ∈ xs, s.addr ≠ a) → f a = []
  gd : ∀ a, Gd cost mn (f a)
  sc : ∀ s ∈ xs, ∀ (k : Nat) x, (f s.addr)[k]? = some x → x ≤ s.last ∧ (((f s.addr).length : Int) - k) * cost ≤ s.score + (s.last - x)
def upd (f : Int → List Int) (a t : Int) : Int → List Int := fun c => if c = a then f a ++ [t] else f c
theorem Rv.start (cost mn now : Int) : Rv cost mn now [] (fun _ => []) :=
  ⟨by simp, fun s hs => by simp at hs, fun s hs => by simp at hs, fun _ _ => rfl, fun _ => Gd.nil _ _, fun s hs => by simp at hs⟩
theorem Sok.up {cost now now' : Int} {s : Sn} (h : Sok cost now s) (hn : now ≤ now') : Sok cost now' s := ⟨h.s0, h.s1, by have := h.l0; omega, h.l1, h.k0, h.k1⟩
theorem few_addr {xs : List Sn} (hn : (xs.map (·.addr)).Nodup) (ha : ∀ s ∈ xs, 0 ≤ s.addr ∧ s.addr < 32) (a : Int) (a0 : 0 ≤ a) (a1 : a < 32) : xs.length < 32 ∨ (xs.length ≤ 32 ∧ ∃ x ∈ xs, x.addr = a) := by
  have key : ∀ (l ys : List Int), l.Nodup → (∀ x ∈ l, x ∈ ys) → l.length ≤ ys.length := by
    intro l
    induction l with
    | nil => intro ys _ _; exact Nat.zero_le _
    | cons x t ih =>
      intro ys hn hs
      rw [List.nodup_cons] at hn
      have hx : x ∈ ys := hs x (List.mem_cons_self ..)
      have := ih (ys.erase x) hn.2 (fun y hy => (List.mem_erase_of_ne (fun (e : y = x) => hn.1 (by rw [← e]; exact hy))).2 (hs y (List.mem_cons_of_mem _ hy)))
      rw [List.length_erase_of_mem hx] at this
      have h0 : 0 < ys.length := List.length_pos_of_mem hx
      simp only [List.length_cons]
      omega
  have mem32 : ∀ c : Int, 0 ≤ c → c < 32 → c ∈ (List.range 32).map (fun (n : Nat) => (n : Int)) := fun c c0 c1 => List.mem_map.2 ⟨c.toNat, List.mem_range.2 (by omega), Int.toNat_of_nonneg c0⟩
  by_cases hx : ∃ x ∈ xs, x.addr = a
  · refine .inr ⟨?_, hx⟩
    have := key (xs.map (·.addr)) ((List.range 32).map (fun (n : Nat) => (n : Int))) hn (fun c hc => by
      obtain ⟨s, hs, rfl⟩ := List.mem_map.1 hc
      exact mem32 _ (ha s hs).1 (ha s hs).2)
    simpa using this
  · refine .inl ?_
    have := key (a :: xs.map (·.addr)) ((List.range 32).map (fun (n : Nat) => (n : Int))) (by
      rw [List.nodup_cons]
      refine ⟨fun h => ?_, hn⟩
      obtain ⟨s, hs, e⟩ := List.mem_map.1 h
      exact hx ⟨s, hs, e⟩) (fun c hc => by
      rcases List.mem_cons.1 hc with rfl | hc
      · exact mem32 _ a0 a1
      · obtain ⟨s, hs, rfl⟩ := List.mem_map.1 hc
        exact mem32 _ (ha s hs).1 (ha s hs).2)
    simp at this
    omega
theorem jd_true (cost mn score gap : Int) (kod : Bool) : (jdG cost mn score gap true kod = 0 ∧ mn ≤ gap ∧ score + cost ≤ 8 * cost) ∨ jdG cost mn score gap true kod = 1 ∨ (jdG cost mn score gap true kod = 2 ∧ kod = true) := by
  unfold jdG
  rw [if_neg (by decide)]
  by_cases h1 : gap < mn
  · rw [if_pos h1]; exact .inr (.inl rfl)
  · rw [if_neg h1]
    by_cases h2 : score + cost ≤ 8 * cost
    · rw [if_pos h2]; exact .inl ⟨rfl, by omega, h2⟩
    · rw [if_neg h2]
      cases kod
      · exact .inr (.inl rfl)
      · exact .inr (.inr ⟨rfl, rfl⟩)
theorem Rv.step {cost mn now now' turns a v : Int} {xs xs' : List Sn} {f : Int → List Int} {kod : Bool} (h : Rv cost mn now xs f) (hd : HdR xs a cost mn now' turns true kod xs' v) (hc : 1 ≤ cost) (hn : now ≤ now') (n0 : 0 ≤ now') (n1 : now' ≤ 419430400) (a0 : 0 ≤ a) (a1 : a < 32) :
    (v = 0 ∨ v = 1 ∨ (v = 2 ∧ kod = true)) ∧ (v = 0 → Rv cost mn now' xs' (upd f a now')) ∧ (v ≠ 0 → Rv cost mn now' xs' f) := by
  rcases hd with ⟨h1, rfl, rfl⟩ | ⟨i, hi, h1, rfl, rfl⟩
  · refine ⟨.inl rfl, fun _ => ?_, fun h => absurd rfl h⟩
    have fa : f a = [] := h.no a h1
    have fu : upd f a now' a = [now'] := by unfold upd; rw [if_pos rfl, fa]; rfl
    have fo : ∀ c, c ≠ a → upd f a now' c = f c := fun c hc => by unfold upd; rw [if_neg hc]
    refine ⟨?_, fun s hs => ?_, fun s hs => ?_, fun c hc => ?_, fun c => ?_, fun s hs k x hx => ?_⟩
    · rw [List.map_append, List.nodup_append]
      refine ⟨h.nd, by simp, fun x hx y hy => ?_⟩
      obtain ⟨s, hs, rfl⟩ := List.mem_map.1 hx
      simp at hy
      rw [hy]
      exact h1 s hs
    · rcases List.mem_append.1 hs with hs | hs
      · exact h.ad s hs
      · simp at hs; rw [hs]; exact ⟨a0, a1⟩
    · rcases List.mem_append.1 hs with hs | hs
      · exact (h.ok s hs).up hn
      · simp at hs
        rw [hs]
        exact ⟨by show (0 : Int) ≤ cost; omega, by show cost ≤ 8 * cost; omega, Int.le_refl _, by show -9223372036854775808 ≤ now'; omega, by show (0 : Int) ≤ 1; omega, by show (1 : Int) ≤ 2147483647; omega⟩
    · have hca : c ≠ a := fun e => hc (nwS a cost now' turns) (by simp) e.symm
      rw [fo c hca]
      exact h.no c fun s hs => hc s (List.mem_append_left _ hs)
    · by_cases hca : c = a
      · rw [hca, fu]
        exact (Gd.nil cost mn).snoc (by omega) n0 n1 (fun k x hx => by simp at hx) (fun x hx => by simp at hx)
      · rw [fo c hca]; exact h.gd c
    · rcases List.mem_append.1 hs with hs | hs
      · rw [fo _ (h1 s hs)] at hx ⊢
        exact h.sc s hs k x hx
      · simp at hs
        subst hs
        have e : (nwS a cost now' turns).addr = a := rfl
        rw [e, fu] at hx ⊢
        cases k with
        | zero =>
          simp at hx
          subst hx
          refine ⟨Int.le_refl _, ?_⟩
          show ((1 : Int) - 0) * cost ≤ cost + (now' - now')
          rw [Int.sub_zero, Int.one_mul, Int.sub_self, Int.add_zero]
          exact Int.le_refl _
        | succ k => simp at hx
  · obtain ⟨s, hs⟩ : ∃ s, s = xs[i] := ⟨_, rfl⟩
    rw [← hs] at h1 ⊢
    have hsm : s ∈ xs := by rw [hs]; exact List.getElem_mem hi
    have ok := h.ok s hsm
    obtain ⟨G, hG⟩ : ∃ G, now' - s.last = G := ⟨_, rfl⟩
    obtain ⟨S, hS⟩ : ∃ S, s.score - min G s.score = S := ⟨_, rfl⟩
    have l0 := ok.l0
    have s0 := ok.s0
    have s1 := ok.s1
    have hS0 : 0 ≤ S ∧ s.score - G ≤ S ∧ S ≤ s.score := by omega
    have ev : haV s cost mn now' true kod = jdG cost mn S G true kod := by unfold haV; rw [hG, hS]
    have es : haS s cost mn now' turns true kod = { s with last := now', count := if s.count < 2147483647 then s.count + 1 else s.count, turn := turns, score := if jdG cost mn S G true kod = 0 then min (S + cost) (8 * cost) else S } := by unfold haS; rw [hG, hS]
    obtain ⟨s', hs'⟩ : ∃ s', haS s cost mn now' turns true kod = s' := ⟨_, rfl⟩
    have ad' : s'.addr = a := by rw [← hs', es]; exact h1
    have la' : s'.last = now' := by rw [← hs', es]
    have co' : s'.count = if s.count < 2147483647 then s.count + 1 else s.count := by rw [← hs', es]
    have sc' : s'.score = if jdG cost mn S G true kod = 0 then min (S + cost) (8 * cost) else S := by rw [← hs', es]
    rw [hs', ev]
    have nd' : ((xs.set i s').map (·.addr)) = xs.map (·.addr) := by
      refine List.ext_getElem? fun j => ?_
      rw [List.getElem?_map, List.getElem?_map, List.getElem?_set]
      split
      · rename_i e
        subst e
        rw [List.getElem?_eq_getElem hi, ← hs]
        simp [ad', h1]
      · rfl
    have mem' : ∀ t ∈ xs.set i s', t = s' ∨ (t ∈ xs ∧ t.addr ≠ a) := fun t ht => by
      obtain ⟨j, hj⟩ := List.getElem?_of_mem ht
      rw [List.getElem?_set] at hj
      split at hj
      · left; exact (Option.some.inj hj).symm
      · rename_i hne
        refine .inr ⟨List.mem_of_getElem? hj, fun e => hne ?_⟩
        have hjl : j < xs.length := by
          rcases Nat.lt_or_ge j xs.length with h | h
          · exact h
          · rw [List.getElem?_eq_none h] at hj; cases hj
        rw [List.getElem?_eq_getElem hjl] at hj
        have e1 : xs[j].addr = xs[i].addr := by rw [Option.some.inj hj, e, ← hs, h1]
        have hp := List.pairwise_iff_getElem.1 h.nd
        rcases Nat.lt_or_ge i j with hlt | hge
        · exfalso
          refine hp i j (by simpa using hi) (by simpa using hjl) hlt ?_
          rw [List.getElem_map, List.getElem_map]
          exact e1.symm
        · rcases Nat.eq_or_lt_of_le hge with h | h
          · exact h.symm
          · exfalso
            refine hp j i (by simpa using hjl) (by simpa using hi) h ?_
            rw [List.getElem_map, List.getElem_map]
            exact e1
    have k0 := ok.k0
    have k1 := ok.k1
    have ok' : Sok cost now' s' := by
      refine ⟨?_, ?_, by rw [la']; exact Int.le_refl _, by rw [la']; omega, ?_, ?_⟩
      · rw [sc']; split <;> omega
      · rw [sc']; split <;> omega
      · rw [co']; split <;> omega
      · rw [co']; split <;> omega
    have base : ∀ (k : Nat) x, (f a)[k]? = some x → x ≤ s.last ∧ (((f a).length : Int) - k) * cost ≤ S + (now' - x) := fun k x hx => by
      have := h.sc s hsm k x (by rw [h1]; exact hx)
      rw [h1] at this
      exact ⟨this.1, by omega⟩
    rcases jd_true cost mn S G kod with ⟨j0, j1, j2⟩ | j0 | ⟨j0, j1⟩
    · rw [j0] at sc' ⊢
      rw [if_pos rfl] at sc'
      refine ⟨.inl rfl, fun _ => ?_, fun h => absurd rfl h⟩
      have fu : upd f a now' a = f a ++ [now'] := by unfold upd; rw [if_pos rfl]
      have fo : ∀ c, c ≠ a → upd f a now' c = f c := fun c hc => by unfold upd; rw [if_neg hc]
      have base2 : ∀ (k : Nat) x, (f a)[k]? = some x → x ≤ now' ∧ (((f a).length : Int) - k + 1) * cost ≤ S + cost + (now' - x) := fun k x hx => by
        obtain ⟨b1, b2⟩ := base k x hx
        refine ⟨by omega, ?_⟩
        rw [Int.add_mul, Int.one_mul]
        omega
      refine ⟨by rw [nd']; exact h.nd, fun t ht => ?_, fun t ht => ?_, fun c hc => ?_, fun c => ?_, fun t ht k x hx => ?_⟩
      · rcases mem' t ht with rfl | ⟨h2, _⟩
        · rw [ad']; exact ⟨a0, a1⟩
        · exact h.ad t h2
      · rcases mem' t ht with rfl | ⟨h2, _⟩
        · exact ok'
        · exact (h.ok t h2).up hn
      · have hca : c ≠ a := fun e => hc s' (List.mem_of_getElem? (by rw [List.getElem?_set_self hi])) (by rw [ad', e])
        rw [fo c hca]
        refine h.no c fun t ht e => ?_
        obtain ⟨j, hj⟩ := List.getElem?_of_mem ht
        by_cases hji : i = j
        · subst hji
          rw [List.getElem?_eq_getElem hi, ← hs] at hj
          rw [← Option.some.inj hj, h1] at e
          exact hca e.symm
        · exact hc t (List.mem_of_getElem? (by rw [List.getElem?_set_ne hji]; exact hj)) e
      · by_cases hca : c = a
        · rw [hca, fu]
          refine (h.gd a).snoc (by omega) n0 n1 (fun k x hx => ?_) (fun x hx => ?_)
          · have := base2 k x hx
            exact ⟨this.1, by omega⟩
          · have := (base _ x hx).1
            omega
        · rw [fo c hca]; exact h.gd c
      · rcases mem' t ht with rfl | ⟨h2, h3⟩
        · rw [ad', fu] at hx ⊢
          rw [la', sc', List.length_append]
          have em : min (S + cost) (8 * cost) = S + cost := by omega
          rw [em]
          rcases Nat.lt_or_ge k (f a).length with hk | hk
          · rw [List.getElem?_append_left hk] at hx
            have := base2 k x hx
            refine ⟨this.1, ?_⟩
            have e2 : (((f a).length + [now'].length : Nat) : Int) - k = ((f a).length : Int) - k + 1 := by simp; omega
            rw [e2]
            exact this.2
          · rw [List.getElem?_append_right hk] at hx
            have hk2 : k - (f a).length = 0 := by
              rcases Nat.eq_zero_or_pos (k - (f a).length) with h | h
              · exact h
              · rw [List.getElem?_eq_none (by simp; omega)] at hx; cases hx
            rw [hk2] at hx
            simp at hx
            subst hx
            refine ⟨Int.le_refl _, ?_⟩
            have e2 : (((f a).length + [now'].length : Nat) : Int) - k = 1 := by simp; omega
            rw [e2, Int.one_mul]
            omega
        · rw [fo _ h3] at hx ⊢
          exact h.sc t h2 k x hx
    all_goals
      have jn : ¬ jdG cost mn S G true kod = 0 := by rw [j0]; decide
      rw [if_neg jn] at sc'
      rw [j0]
      refine ⟨by first | exact .inr (.inl rfl) | exact .inr (.inr ⟨rfl, j1⟩), fun h => absurd h (by decide), fun _ => ?_⟩
      refine ⟨by rw [nd']; exact h.nd, fun t ht => ?_, fun t ht => ?_, fun c hc => ?_, h.gd, fun t ht k x hx => ?_⟩
      · rcases mem' t ht with rfl | ⟨h2, _⟩
        · rw [ad']; exact ⟨a0, a1⟩
        · exact h.ad t h2
      · rcases mem' t ht with rfl | ⟨h2, _⟩
        · exact ok'
        · exact (h.ok t h2).up hn
      · refine h.no c fun t ht e => ?_
        obtain ⟨j, hj⟩ := List.getElem?_of_mem ht
        by_cases hji : i = j
        · subst hji
          rw [List.getElem?_eq_getElem hi, ← hs] at hj
          rw [← Option.some.inj hj, h1] at e
          exact hc s' (List.mem_of_getElem? (by rw [List.getElem?_set_self hi])) (by rw [ad', e])
        · exact hc t (List.mem_of_getElem? (by rw [List.getElem?_set_ne hji]; exact hj)) e
      · rcases mem' t ht with rfl | ⟨h2, h3⟩
        · rw [ad'] at hx ⊢
          rw [la', sc']
          have := base k x hx
          exact ⟨by omega, this.2⟩
        · exact h.sc t h2 k x hx
/-- the law's own test -/
theorem Gd.rate {cost mn x y : Int} {L : List Int} {i k : Nat} (h : Gd cost mn L) (hc : 1 ≤ cost) (hi : L[i]? = some y) (hk : L[k]? = some x) (hki : k ≤ i) : (i : Int) - k + 1 ≤ (y - x) / cost + 8 := by
  have := ((h i y hi).2.1 k x hki hk).2
  have h2 : ((i : Int) - k + 1 - 8) * cost ≤ y - x := by rw [Int.sub_mul]; omega
  have := (Int.le_ediv_iff_mul_le (by omega)).2 h2
  omega
end Go.Proofs.Ytmgphfdieekpdaa
