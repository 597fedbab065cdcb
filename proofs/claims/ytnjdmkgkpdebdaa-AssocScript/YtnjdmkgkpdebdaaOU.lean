/- assoc: what the reference's below reaches, in lists. -/
import Derived.Test.YtnjdmkgkpdebdaaOP
namespace Go.Proofs.Ytnjdmkgkpdebdaa
open Go Go.RowKit Go.Sort
set_option linter.unusedVariables false
theorem nd_len : ∀ (xs ys : List Int), xs.Nodup → (∀ x ∈ xs, x ∈ ys) → xs.length ≤ ys.length
  | [], _, _, _ => Nat.zero_le _
  | x :: t, ys, hn, hs => by
    rw [List.nodup_cons] at hn
    have hx : x ∈ ys := hs x (List.mem_cons_self ..)
    have := nd_len t (ys.erase x) hn.2 (fun y hy => (List.mem_erase_of_ne (fun (e : y = x) => hn.1 (by rw [← e]; exact hy))).2 (hs y (List.mem_cons_of_mem _ hy)))
    rw [List.length_erase_of_mem hx] at this
    have h0 : 0 < ys.length := List.length_pos_of_mem hx
    simp only [List.length_cons]
    omega
/-- a number, those that it is the parent of, and theirs -/
structure Bl (l : List Mb) (id : Int) (xs : List Int) : Prop where
  own : id ∈ xs
  snd : ∀ x ∈ xs, ∀ Q : Int → Prop, Q id → (∀ m ∈ l, Q m.par → Q m.id) → Q x
  clo : ∀ m ∈ l, m.par ∈ xs → m.id ∈ xs
  len : xs.length ≤ l.length + 1
structure BlS (l : List Mb) (id : Int) (xs : List Int) (i k : Nat) : Prop where
  own : id ∈ xs
  snd : ∀ x ∈ xs, ∀ Q : Int → Prop, Q id → (∀ m ∈ l, Q m.par → Q m.id) → Q x
  nd : xs.Nodup
  sub : ∀ x ∈ xs, x ∈ id :: l.map (·.id)
  old : ∀ j, j < i → ∀ m ∈ l, xs[j]? = some m.par → m.id ∈ xs
  now : ∀ m ∈ l.take k, xs[i]? = some m.par → m.id ∈ xs
theorem BlS.start (l : List Mb) (id : Int) : BlS l id [id] 0 0 :=
  ⟨by simp, fun x hx Q h _ => by simp at hx; rw [hx]; exact h, by simp, fun x hx => by simp at hx; rw [hx]; simp, fun j hj => absurd hj (by omega), fun m hm => by simp at hm⟩
theorem BlS.len {l : List Mb} {id : Int} {xs : List Int} {i k : Nat} (h : BlS l id xs i k) : xs.length ≤ l.length + 1 := by
  have := nd_len _ _ h.nd h.sub
  simpa using this
theorem BlS.yes {l : List Mb} {id : Int} {xs : List Int} {i k : Nat} {m : Mb} (h : BlS l id xs i k) (hm : l[k]? = some m) (hi : xs[i]? = some m.par) (hx : m.id ∉ xs) : BlS l id (xs ++ [m.id]) i (k + 1) := by
  have hml : m ∈ l := List.mem_of_getElem? hm
  have hil : i < xs.length := by
    rcases Nat.lt_or_ge i xs.length with h | h
    · exact h
    · rw [List.getElem?_eq_none h] at hi; cases hi
  refine ⟨List.mem_append_left _ h.own, fun x hx Q q0 q1 => ?_, ?_, fun x hx => ?_, fun j hj n hn hp => ?_, fun n hn hp => ?_⟩
  · rcases List.mem_append.1 hx with hx | hx
    · exact h.snd x hx Q q0 q1
    · simp at hx
      rw [hx]
      exact q1 m hml (h.snd _ (List.mem_of_getElem? hi) Q q0 q1)
  · rw [List.nodup_append]
    exact ⟨h.nd, by simp, fun a ha b hb => by simp at hb; rw [hb]; exact fun e => hx (e ▸ ha)⟩
  · rcases List.mem_append.1 hx with hx | hx
    · exact h.sub x hx
    · simp at hx
      rw [hx]
      exact List.mem_cons_of_mem _ (List.mem_map_of_mem hml)
  · rw [List.getElem?_append_left (by omega)] at hp
    exact List.mem_append_left _ (h.old j hj n hn hp)
  · rw [List.getElem?_append_left hil] at hp
    have hk : k < l.length := by
      rcases Nat.lt_or_ge k l.length with h | h
      · exact h
      · rw [List.getElem?_eq_none h] at hm; cases hm
    rw [List.take_succ_eq_append_getElem hk] at hn
    rcases List.mem_append.1 hn with hn | hn
    · exact List.mem_append_left _ (h.now n hn hp)
    · simp at hn
      rw [List.getElem?_eq_getElem hk] at hm
      rw [hn, Option.some.inj hm]
      simp
theorem BlS.no {l : List Mb} {id : Int} {xs : List Int} {i k : Nat} {m : Mb} (h : BlS l id xs i k) (hm : l[k]? = some m) (hx : xs[i]? = some m.par → m.id ∈ xs) : BlS l id xs i (k + 1) := by
  refine ⟨h.own, h.snd, h.nd, h.sub, h.old, fun n hn hp => ?_⟩
  have hk : k < l.length := by
    rcases Nat.lt_or_ge k l.length with h | h
    · exact h
    · rw [List.getElem?_eq_none h] at hm; cases hm
  rw [List.take_succ_eq_append_getElem hk] at hn
  rcases List.mem_append.1 hn with hn | hn
  · exact h.now n hn hp
  · simp at hn
    rw [List.getElem?_eq_getElem hk] at hm
    rw [hn, Option.some.inj hm] at hp ⊢
    exact hx hp
theorem BlS.next {l : List Mb} {id : Int} {xs : List Int} {i k : Nat} (h : BlS l id xs i k) (hk : l.length ≤ k) : BlS l id xs (i + 1) 0 := by
  refine ⟨h.own, h.snd, h.nd, h.sub, fun j hj m hm hp => ?_, fun m hm => by simp at hm⟩
  rcases Nat.lt_or_ge j i with hj' | hj'
  · exact h.old j hj' m hm hp
  · have : j = i := by omega
    subst this
    exact h.now m (by rw [List.take_of_length_le hk]; exact hm) hp
theorem BlS.done {l : List Mb} {id : Int} {xs : List Int} {i k : Nat} (h : BlS l id xs i k) (hi : xs.length ≤ i) : Bl l id xs := by
  refine ⟨h.own, h.snd, fun m hm hp => ?_, h.len⟩
  obtain ⟨j, hj⟩ := List.getElem?_of_mem hp
  refine h.old j ?_ m hm hj
  rcases Nat.lt_or_ge j xs.length with h | h
  · omega
  · rw [List.getElem?_eq_none h] at hj; cases hj
end Go.Proofs.Ytnjdmkgkpdebdaa
