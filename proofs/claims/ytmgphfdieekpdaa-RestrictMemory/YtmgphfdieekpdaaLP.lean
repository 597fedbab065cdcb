/- Which addresses were heard of late: in lists. -/
import Derived.Test.YtmgphfdieekpdaaRZ
namespace Go.Proofs.Ytmgphfdieekpdaa
open Go Go.RowKit
/-- the addresses heard of late, one more heard -/
def rcS (rs : List Int) (a : Int) : List Int := (a :: rs.filter (fun x => decide (x ≠ a))).take 32
structure Rj (k : Int) (ss : List Sn) : Prop where
  len : ss.length ≤ 32
  srt : ss.Pairwise (fun a b => b.turn < a.turn)
  adr : ss.Pairwise (fun a b => a.addr ≠ b.addr)
  each : ∀ x ∈ ss, 1 ≤ x.turn ∧ x.turn ≤ k ∧ x.last = x.turn - 1 ∧ x.first ≤ x.last ∧ 1 ≤ x.count ∧ x.count ≤ 2147483647 ∧ 0 ≤ x.score ∧ x.score ≤ 64
/-- senders xs after k packets, rs heard of late -/
def Ri (k : Int) (xs : List Sn) (rs : List Int) : Prop := ∃ ss : List Sn, ss.Perm xs ∧ Rj k ss ∧ rs = ss.map (·.addr)
theorem Ri.nil : Ri 0 [] [] := ⟨[], List.Perm.refl _, ⟨by simp, List.Pairwise.nil, List.Pairwise.nil, fun x hx => by cases hx⟩, rfl⟩
theorem filter_ne {l : List Int} {a : Int} (h : ∀ x ∈ l, x ≠ a) : l.filter (fun x => decide (x ≠ a)) = l := by
  rw [List.filter_eq_self]
  intro x hx
  simp [h x hx]
theorem set_split {xs ss : List Sn} (hp : ss.Perm xs) {i : Nat} (hi : i < xs.length) : ∃ s1 s2, ss = s1 ++ xs[i] :: s2 ∧ ∀ y, (y :: (s1 ++ s2)).Perm (xs.set i y) := by
  obtain ⟨s1, s2, hs⟩ := List.append_of_mem (hp.symm.subset (List.getElem_mem hi))
  refine ⟨s1, s2, hs, fun y => ?_⟩
  have hx : xs = xs.take i ++ xs[i] :: xs.drop (i + 1) := by simp
  have hset : xs.set i y = xs.take i ++ y :: xs.drop (i + 1) := List.set_eq_take_append_cons_drop .. |>.trans (by rw [if_pos hi])
  have h1 : (xs[i] :: (s1 ++ s2)).Perm (xs[i] :: (xs.take i ++ xs.drop (i + 1))) := by
    have h2 : (xs[i] :: (s1 ++ s2)).Perm ss := by rw [hs]; exact List.perm_middle.symm
    have h3 : xs.Perm (xs[i] :: (xs.take i ++ xs.drop (i + 1))) := by
      have h4 : (xs.take i ++ xs[i] :: xs.drop (i + 1)).Perm (xs[i] :: (xs.take i ++ xs.drop (i + 1))) := List.perm_middle
      rw [← hx] at h4
      exact h4
    exact (h2.trans hp).trans h3
  rw [hset]
  exact (h1.cons_inv.cons y).trans List.perm_middle.symm
/-- one ahead of all others -/
theorem Rj.front {k : Int} {ss rest : List Sn} {n : Sn} (h : Rj k ss) (hr : rest.Sublist ss) (hlen : rest.length < 32) (hk : 0 ≤ k) (ha : ∀ x ∈ rest, x.addr ≠ n.addr) (ht : n.turn = k + 1) (hl : n.last = k) (hf : n.first ≤ k) (hc : 1 ≤ n.count) (hc2 : n.count ≤ 2147483647) (hs : 0 ≤ n.score) (hs2 : n.score ≤ 64) : Rj (k + 1) (n :: rest) := by
  refine ⟨by simp; omega, ?_, ?_, ?_⟩
  · refine List.pairwise_cons.2 ⟨fun x hx => ?_, h.srt.sublist hr⟩
    have := (h.each x (hr.subset hx)).2.1
    omega
  · exact List.pairwise_cons.2 ⟨fun x hx => fun e => ha x hx e.symm, h.adr.sublist hr⟩
  · intro x hx
    rcases List.mem_cons.1 hx with rfl | hx
    · exact ⟨by omega, by omega, by omega, by omega, hc, hc2, hs, hs2⟩
    · obtain ⟨h1, h2, h3⟩ := h.each x (hr.subset hx)
      exact ⟨h1, by omega, h3⟩
theorem Ri.step {k : Int} {xs : List Sn} {rs : List Int} (h : Ri k xs rs) (hk : 0 ≤ k) {a : Int} {xs' : List Sn} {v : Int} (hd : (xs.length < 32 ∨ ∃ x ∈ xs, x.addr = a) ∧ HdR xs a 8 2 k (k + 1) false false xs' v ∨ (xs.length = 32 ∧ (∀ x ∈ xs, x.addr ≠ a) ∧ ∃ i, (∃ _ : i < xs.length, ∀ j (hj : j < xs.length), xs[i].turn ≤ xs[j].turn) ∧ xs' = xs.set i (nwS a 8 k (k + 1)))) :
    Ri (k + 1) xs' (rcS rs a) := by
  obtain ⟨ss, hp, hj, hrs⟩ := h
  rcases hd with ⟨hl, ⟨hno, hx', -⟩ | ⟨i, hi, hai, hx', -⟩⟩ | ⟨hl, hno, i, ⟨hi, hmin⟩, hx'⟩
  · have hl32 : xs.length < 32 := by
      rcases hl with h | ⟨x, hx, h⟩
      · exact h
      · exact absurd h (hno x hx)
    have hno' : ∀ x ∈ ss, x.addr ≠ a := fun x hx => hno x (hp.subset hx)
    have hlen : ss.length < 32 := by rw [hp.length_eq]; exact hl32
    refine ⟨nwS a 8 k (k + 1) :: ss, ?_, hj.front (List.Sublist.refl _) hlen hk hno' rfl rfl (Int.le_refl _) (by simp [nwS]) (by simp [nwS]) (by simp [nwS]) (by simp [nwS]), ?_⟩
    · rw [hx']
      exact (hp.cons _).trans (List.perm_append_comm (l₁ := [_]))
    · rw [hrs]
      unfold rcS
      rw [filter_ne (fun x hx => by obtain ⟨y, hy, rfl⟩ := List.mem_map.1 hx; exact hno' y hy), List.take_of_length_le (by simp; omega)]
      rfl
  · obtain ⟨s1, s2, hs, hperm⟩ := set_split hp hi
    have hlen : (s1 ++ s2).length < 32 := by
      have h1 := hj.len
      rw [hs] at h1
      simp at h1 ⊢
      omega
    have hsub : (s1 ++ s2).Sublist ss := by rw [hs]; exact List.Sublist.append (List.Sublist.refl _) (List.sublist_cons_self _ _)
    have hadr := hj.adr
    rw [hs] at hadr
    have hne : ∀ x ∈ s1 ++ s2, x.addr ≠ a := by
      intro x hx
      rw [List.pairwise_append] at hadr
      rcases List.mem_append.1 hx with h1 | h2
      · have := hadr.2.2 x h1 xs[i] (by simp)
        rw [hai] at this
        exact this
      · have := (List.pairwise_cons.1 hadr.2.1).1 x h2
        rw [hai] at this
        exact fun e => this e.symm
    have he := hj.each xs[i] (by rw [hs]; simp)
    have hfr : Rj (k + 1) (haS xs[i] 8 2 k (k + 1) false false :: (s1 ++ s2)) := by
      refine hj.front hsub hlen hk (fun x hx => by show x.addr ≠ xs[i].addr; rw [hai]; exact hne x hx) rfl rfl ?_ ?_ ?_ ?_ ?_
      · show xs[i].first ≤ k; omega
      · show 1 ≤ (if xs[i].count < 2147483647 then xs[i].count + 1 else xs[i].count); split <;> omega
      · show (if xs[i].count < 2147483647 then xs[i].count + 1 else xs[i].count) ≤ 2147483647; split <;> omega
      · simp only [haS, jdG, if_true]; omega
      · simp only [haS, jdG, if_true]; omega
    refine ⟨_, by rw [hx']; exact hperm _, hfr, ?_⟩
    rw [hrs, hs]
    unfold rcS
    have e1 : ((s1 ++ xs[i] :: s2).map (·.addr)).filter (fun x => decide (x ≠ a)) = (s1 ++ s2).map (·.addr) := by
      rw [List.map_append, List.map_cons, List.filter_append, List.filter_cons_of_neg (by simp [hai]), ← List.filter_append, ← List.map_append]
      exact filter_ne (fun x hx => by obtain ⟨y, hy, rfl⟩ := List.mem_map.1 hx; exact hne y hy)
    rw [e1, List.take_of_length_le (by simp at hlen ⊢; omega), List.map_cons]
    show a :: _ = xs[i].addr :: _
    rw [hai]
  · obtain ⟨s1, s2, hs, hperm⟩ := set_split hp hi
    have hsrt := hj.srt
    rw [hs] at hsrt
    have hs2 : s2 = [] := by
      rcases s2 with _ | ⟨b, r⟩
      · rfl
      · exfalso
        have h1 := (List.pairwise_cons.1 (List.pairwise_append.1 hsrt).2.1).1 b (by simp)
        have hb : b ∈ xs := hp.subset (by rw [hs]; simp)
        obtain ⟨j, hj', rfl⟩ := List.getElem_of_mem hb
        have := hmin j hj'
        omega
    subst hs2
    rw [List.append_nil] at hperm
    have hlen1 : s1.length = 31 := by
      have h1 := hp.length_eq
      rw [hs] at h1
      simp at h1
      omega
    have hsub : s1.Sublist ss := by rw [hs]; exact List.sublist_append_left _ _
    have hno' : ∀ x ∈ ss, x.addr ≠ a := fun x hx => hno x (hp.subset hx)
    refine ⟨_, by rw [hx']; exact hperm _, hj.front hsub (by omega) hk (fun x hx => hno' x (hsub.subset hx)) rfl rfl (Int.le_refl _) (by simp [nwS]) (by simp [nwS]) (by simp [nwS]) (by simp [nwS]), ?_⟩
    rw [hrs]
    unfold rcS
    rw [filter_ne (fun x hx => by obtain ⟨y, hy, rfl⟩ := List.mem_map.1 hx; exact hno' y hy), hs, List.map_append, List.take_succ_cons, List.take_append_of_le_length (by simp [hlen1]), List.take_of_length_le (by simp [hlen1])]
    rfl
/-- the one that was heard last, found -/
theorem Ri.found {k : Int} {xs xs' : List Sn} {rs : List Int} {a v : Int} (hd : (xs.length < 32 ∨ ∃ x ∈ xs, x.addr = a) ∧ HdR xs a 8 2 k (k + 1) false false xs' v ∨ (xs.length = 32 ∧ (∀ x ∈ xs, x.addr ≠ a) ∧ ∃ i, (∃ _ : i < xs.length, ∀ j (hj : j < xs.length), xs[i].turn ≤ xs[j].turn) ∧ xs' = xs.set i (nwS a 8 k (k + 1)))) (h' : Ri (k + 1) xs' (rcS rs a)) :
    (∃ s ∈ xs', s.addr = a) ∧ ∀ s ∈ xs', s.addr = a → s.last = k ∧ 1 ≤ s.count := by
  have hex : ∃ s ∈ xs', s.addr = a ∧ s.last = k := by
    rcases hd with ⟨_, ⟨_, hx', -⟩ | ⟨i, hi, hai, hx', -⟩⟩ | ⟨_, _, i, ⟨hi, _⟩, hx'⟩
    · rw [hx']; exact ⟨nwS a 8 k (k + 1), by simp, rfl, rfl⟩
    · rw [hx']; exact ⟨_, List.mem_set hi _, hai, rfl⟩
    · rw [hx']; exact ⟨_, List.mem_set hi _, rfl, rfl⟩
  obtain ⟨ss, hp, hj, -⟩ := h'
  obtain ⟨s0, hs0, ha0, hl0⟩ := hex
  refine ⟨⟨s0, hs0, ha0⟩, fun s hs ha => ?_⟩
  have h0 := hp.symm.subset hs0
  have h1 := hp.symm.subset hs
  have he : s = s0 := by
    by_cases e : s = s0
    · exact e
    · exfalso
      obtain ⟨i, hi, rfl⟩ := List.getElem_of_mem h1
      obtain ⟨j, hj', rfl⟩ := List.getElem_of_mem h0
      have hp2 := List.pairwise_iff_getElem.1 hj.adr
      rcases Nat.lt_trichotomy i j with hij | hij | hij
      · exact hp2 i j hi hj' hij (by rw [ha, ha0])
      · subst hij; exact e rfl
      · exact hp2 j i hj' hi hij (by rw [ha, ha0])
  subst he
  exact ⟨hl0, (hj.each s h1).2.2.2.2.1⟩
theorem Ri.ok {k : Int} {xs : List Sn} {rs : List Int} (h : Ri k xs rs) : ∀ x ∈ xs, Sok 8 (k - 1) x := by
  obtain ⟨ss, hp, hj, -⟩ := h
  intro x hx
  obtain ⟨h1, h2, h3, h4, h5, h6, h7, h8⟩ := hj.each x (hp.symm.subset hx)
  exact ⟨h7, by omega, by omega, by omega, by omega, h6⟩
theorem Ri.len {k : Int} {xs : List Sn} {rs : List Int} (h : Ri k xs rs) : xs.length ≤ 32 := by
  obtain ⟨ss, hp, hj, -⟩ := h
  rw [← hp.length_eq]
  exact hj.len
theorem Ri.nd {k : Int} {xs : List Sn} {rs : List Int} (h : Ri k xs rs) : ∀ i j (hi : i < xs.length) (hj : j < xs.length), xs[i].turn = xs[j].turn → i = j := by
  obtain ⟨ss, hp, hj, -⟩ := h
  have h1 : ss.Pairwise (fun a b => a.turn ≠ b.turn) := hj.srt.imp (fun h e => by omega)
  have h2 : xs.Pairwise (fun a b => a.turn ≠ b.turn) := (hp.pairwise_iff (fun h e => h e.symm)).1 h1
  have h3 := List.pairwise_iff_getElem.1 h2
  intro i j hi hj e
  rcases Nat.lt_trichotomy i j with hij | hij | hij
  · exact absurd e (h3 i j hi hj hij)
  · exact hij
  · exact absurd e.symm (h3 j i hj hi hij)
theorem srt_uniq : ∀ {ys ss : List Sn}, ys.Perm ss → ys.Pairwise (fun a b => b.turn ≤ a.turn) → ss.Pairwise (fun a b => b.turn < a.turn) → ys = ss
  | [], ss, hp, _, _ => (List.nil_perm.1 hp).symm
  | y :: r, [], hp, _, _ => by simpa using hp.length_eq
  | y :: r, s :: t, hp, hy, hs => by
    have hy' := List.pairwise_cons.1 hy
    have hs' := List.pairwise_cons.1 hs
    have he : y = s := by
      have h1 : y ∈ s :: t := hp.subset (by simp)
      have h2 : s ∈ y :: r := hp.symm.subset (by simp)
      rcases List.mem_cons.1 h1 with h1 | h1
      · exact h1
      · rcases List.mem_cons.1 h2 with h2 | h2
        · exact h2.symm
        · have h3 := hs'.1 y h1
          have h4 := hy'.1 s h2
          omega
    subst he
    rw [srt_uniq hp.cons_inv hy'.2 hs'.2]
/-- what List tells -/
theorem Ri.list {k : Int} {xs ys : List Sn} {rs : List Int} (h : Ri k xs rs) (hp : ys.Perm xs) (hs : ys.Pairwise (fun a b => b.turn ≤ a.turn)) : rs = ys.map (·.addr) ∧ (∀ x ∈ ys, x.first ≤ x.last) ∧ ys.Pairwise (fun a b => b.last ≤ a.last) := by
  obtain ⟨ss, hq, hj, hrs⟩ := h
  obtain rfl : ys = ss := srt_uniq (hp.trans hq.symm) hs hj.srt
  refine ⟨hrs, fun x hx => (hj.each x hx).2.2.2.1, ?_⟩
  rw [List.pairwise_iff_getElem] at hs ⊢
  intro i j hi hj' hij
  have h1 := hs i j hi hj' hij
  have h2 := (hj.each _ (List.getElem_mem hi)).2.2.1
  have h3 := (hj.each _ (List.getElem_mem hj')).2.2.1
  omega
end Go.Proofs.Ytmgphfdieekpdaa
