/- What both memories hold, in lists: the senders in falling order of turn. -/
import Derived.Test.YtmgphfdieekpdaaLP
namespace Go.Proofs.Ytmgphfdieekpdaa
open Go Go.RowKit
/-- the reference's list, one packet more -/
def hdL (ss : List Sn) (a cost mn now t : Int) (lim kod : Bool) : List Sn := match ss.find? (fun x => decide (x.addr = a)) with
  | none => nwS a cost now t :: (ss.filter (fun x => decide (x.addr ≠ a))).take 31
  | some e => haS e cost mn now t lim kod :: ss.filter (fun x => decide (x.addr ≠ a))
def hdV (ss : List Sn) (a cost mn now : Int) (lim kod : Bool) : Int := match ss.find? (fun x => decide (x.addr = a)) with
  | none => 0
  | some e => haV e cost mn now lim kod
structure Rq (cost now t : Int) (xs ss : List Sn) : Prop where
  perm : ss.Perm xs
  len : ss.length ≤ 32
  srt : ss.Pairwise (fun a b => b.turn < a.turn)
  adr : ss.Pairwise (fun a b => a.addr ≠ b.addr)
  turn : ∀ x ∈ ss, x.turn ≤ t
  cnt : ∀ x ∈ ss, 1 ≤ x.count
  ok : ∀ x ∈ ss, Sok cost now x
theorem Rq.nil (cost now t : Int) : Rq cost now t [] [] := ⟨List.Perm.refl _, by simp, List.Pairwise.nil, List.Pairwise.nil, (fun x hx => by cases hx), (fun x hx => by cases hx), (fun x hx => by cases hx)⟩
theorem find_no {ss : List Sn} {a : Int} (h : ∀ x ∈ ss, x.addr ≠ a) : ss.find? (fun x => decide (x.addr = a)) = none := by
  rw [List.find?_eq_none]
  intro x hx
  simp [h x hx]
theorem filter_no {ss : List Sn} {a : Int} (h : ∀ x ∈ ss, x.addr ≠ a) : ss.filter (fun x => decide (x.addr ≠ a)) = ss := by
  rw [List.filter_eq_self]
  intro x hx
  simp [h x hx]
theorem Rq.front {cost now now' t : Int} {xs ss rest xs' : List Sn} {n : Sn} (h : Rq cost now t xs ss) (hr : rest.Sublist ss) (hlen : rest.length < 32) (hn : now ≤ now') (hp : (n :: rest).Perm xs') (ha : ∀ x ∈ rest, x.addr ≠ n.addr) (ht : n.turn = t + 1) (hc : 1 ≤ n.count) (hok : Sok cost now' n) : Rq cost now' (t + 1) xs' (n :: rest) := by
  refine ⟨hp, by simp; omega, ?_, ?_, ?_, ?_, ?_⟩
  · refine List.pairwise_cons.2 ⟨fun x hx => ?_, h.srt.sublist hr⟩
    have := h.turn x (hr.subset hx)
    omega
  · exact List.pairwise_cons.2 ⟨fun x hx => fun e => ha x hx e.symm, h.adr.sublist hr⟩
  · intro x hx
    rcases List.mem_cons.1 hx with rfl | hx
    · omega
    · have := h.turn x (hr.subset hx); omega
  · intro x hx
    rcases List.mem_cons.1 hx with rfl | hx
    · exact hc
    · exact h.cnt x (hr.subset hx)
  · intro x hx
    rcases List.mem_cons.1 hx with rfl | hx
    · exact hok
    · obtain ⟨h1, h2, h3, h4, h5, h6⟩ := h.ok x (hr.subset hx)
      exact ⟨h1, h2, by omega, h4, h5, h6⟩
theorem nwS_ok {a cost now t : Int} (c0 : 0 ≤ cost) (n0 : -9223372036854775808 ≤ now) : Sok cost now (nwS a cost now t) := ⟨by simp only [nwS]; omega, by simp only [nwS]; omega, by simp only [nwS]; omega, by simp only [nwS]; omega, by simp only [nwS]; omega, by simp only [nwS]; omega⟩
theorem haS_ok {e : Sn} {cost mn now now' t : Int} {lim kod : Bool} (h : Sok cost now e) (c0 : 0 ≤ cost) (hn : now ≤ now') : Sok cost now' (haS e cost mn now' t lim kod) := by
  obtain ⟨h1, h2, h3, h4, h5, h6⟩ := h
  refine ⟨?_, ?_, ?_, ?_, ?_, ?_⟩
  · simp only [haS]; split <;> omega
  · simp only [haS]; split <;> omega
  · simp only [haS]; omega
  · simp only [haS]; omega
  · simp only [haS]; split <;> omega
  · simp only [haS]; split <;> omega
theorem Rq.step {cost mn now now' t : Int} {lim kod : Bool} {xs ss : List Sn} (h : Rq cost now t xs ss) (hn : now ≤ now') (n0 : -9223372036854775808 ≤ now') (c0 : 0 ≤ cost) {a : Int} {xs' : List Sn} {v : Int}
    (hd : (xs.length < 32 ∨ ∃ x ∈ xs, x.addr = a) ∧ HdR xs a cost mn now' (t + 1) lim kod xs' v ∨ (v = 0 ∧ xs.length = 32 ∧ (∀ x ∈ xs, x.addr ≠ a) ∧ ∃ i, (∃ _ : i < xs.length, ∀ j (hj : j < xs.length), xs[i].turn ≤ xs[j].turn) ∧ xs' = xs.set i (nwS a cost now' (t + 1)))) :
    Rq cost now' (t + 1) xs' (hdL ss a cost mn now' (t + 1) lim kod) ∧ v = hdV ss a cost mn now' lim kod := by
  have hp := h.perm
  rcases hd with ⟨hl, ⟨hno, hx', hv⟩ | ⟨i, hi, hai, hx', hv⟩⟩ | ⟨hv, hl, hno, i, ⟨hi, hmin⟩, hx'⟩
  · have hl32 : xs.length < 32 := by
      rcases hl with h | ⟨x, hx, h⟩
      · exact h
      · exact absurd h (hno x hx)
    have hno' : ∀ x ∈ ss, x.addr ≠ a := fun x hx => hno x (hp.subset hx)
    have hlen : ss.length < 32 := by rw [hp.length_eq]; exact hl32
    unfold hdL hdV
    rw [find_no hno', filter_no hno', List.take_of_length_le (by omega)]
    refine ⟨h.front (List.Sublist.refl _) hlen hn ?_ hno' rfl (by simp [nwS]) (nwS_ok c0 n0), hv⟩
    rw [hx']
    exact (hp.cons _).trans (List.perm_append_comm (l₁ := [_]))
  · obtain ⟨s1, s2, hs, hperm⟩ := set_split hp hi
    have hlen : (s1 ++ s2).length < 32 := by
      have h1 := h.len
      rw [hs] at h1
      simp at h1 ⊢
      omega
    have hsub : (s1 ++ s2).Sublist ss := by rw [hs]; exact List.Sublist.append (List.Sublist.refl _) (List.sublist_cons_self _ _)
    have hadr := h.adr
    rw [hs, List.pairwise_append] at hadr
    have hne1 : ∀ x ∈ s1, x.addr ≠ a := fun x h1 => by
      have := hadr.2.2 x h1 xs[i] (by simp)
      rw [hai] at this
      exact this
    have hne2 : ∀ x ∈ s2, x.addr ≠ a := fun x h2 => by
      have := (List.pairwise_cons.1 hadr.2.1).1 x h2
      rw [hai] at this
      exact fun e => this e.symm
    have hne : ∀ x ∈ s1 ++ s2, x.addr ≠ a := fun x hx => by
      rcases List.mem_append.1 hx with h1 | h2
      · exact hne1 x h1
      · exact hne2 x h2
    have hmem : xs[i] ∈ ss := by rw [hs]; simp
    have e1 : ss.find? (fun x => decide (x.addr = a)) = some xs[i] := by
      rw [hs, List.find?_append, find_no hne1]
      simp [hai]
    have e2 : ss.filter (fun x => decide (x.addr ≠ a)) = s1 ++ s2 := by
      rw [hs, List.filter_append, filter_no hne1, List.filter_cons_of_neg (by simp [hai]), filter_no hne2]
    unfold hdL hdV
    rw [e1, e2]
    refine ⟨h.front hsub hlen hn (by rw [hx']; exact hperm _) (fun x hx => by show x.addr ≠ xs[i].addr; rw [hai]; exact hne x hx) rfl ?_ (haS_ok (h.ok _ hmem) c0 hn), hv⟩
    have := h.cnt _ hmem
    show 1 ≤ (if xs[i].count < 2147483647 then xs[i].count + 1 else xs[i].count)
    split <;> omega
  · obtain ⟨s1, s2, hs, hperm⟩ := set_split hp hi
    have hsrt := h.srt
    rw [hs] at hsrt
    have hs2 : s2 = [] := by
      rcases s2 with _ | ⟨b, r⟩
      · rfl
      · exfalso
        have h1 := (List.pairwise_cons.1 (List.pairwise_append.1 hsrt).2.1).1 b (by simp)
        have hb : b ∈ xs := hp.subset (by rw [hs]; simp)
        obtain ⟨j, hj', rfl⟩ := List.getElem_of_mem hb
        have := hmin j hj'
        omega
    subst hs2
    rw [List.append_nil] at hperm
    have hlen1 : s1.length = 31 := by
      have h1 := hp.length_eq
      rw [hs] at h1
      simp at h1
      omega
    have hsub : s1.Sublist ss := by rw [hs]; exact List.sublist_append_left _ _
    have hno' : ∀ x ∈ ss, x.addr ≠ a := fun x hx => hno x (hp.subset hx)
    have e3 : ss.take 31 = s1 := by rw [hs, List.take_append_of_le_length (by omega), List.take_of_length_le (by omega)]
    unfold hdL hdV
    rw [find_no hno', filter_no hno', e3]
    exact ⟨h.front hsub (by omega) hn (by rw [hx']; exact hperm _) (fun x hx => hno' x (hsub.subset hx)) rfl (by simp [nwS]) (nwS_ok c0 n0), hv⟩
theorem Rq.nd {cost now t : Int} {xs ss : List Sn} (h : Rq cost now t xs ss) : ∀ i j (hi : i < xs.length) (hj : j < xs.length), xs[i].turn = xs[j].turn → i = j := by
  have h1 : ss.Pairwise (fun a b => a.turn ≠ b.turn) := h.srt.imp (fun h e => by omega)
  have h2 : xs.Pairwise (fun a b => a.turn ≠ b.turn) := (h.perm.pairwise_iff (fun h e => h e.symm)).1 h1
  have h3 := List.pairwise_iff_getElem.1 h2
  intro i j hi hj e
  rcases Nat.lt_trichotomy i j with hij | hij | hij
  · exact absurd e (h3 i j hi hj hij)
  · exact hij
  · exact absurd e.symm (h3 j i hj hi hij)
/-- what List tells is the reference's list -/
theorem Rq.list {cost now t : Int} {xs ss ys : List Sn} (h : Rq cost now t xs ss) (hp : ys.Perm xs) (hs : ys.Pairwise (fun a b => b.turn ≤ a.turn)) : ys = ss := srt_uniq (hp.trans h.perm.symm) hs h.srt
/-- what Find tells is the same of both -/
theorem Rq.same {cost now t a : Int} {xs ss : List Sn} {s s' : Sn} {b b' : Bool} (h : Rq cost now t xs ss) (h1 : (b = true ∧ s ∈ xs ∧ s.addr = a) ∨ (b = false ∧ s = zS ∧ ∀ x ∈ xs, x.addr ≠ a)) (h2 : (b' = true ∧ s' ∈ ss ∧ s'.addr = a) ∨ (b' = false ∧ s' = zS ∧ ∀ x ∈ ss, x.addr ≠ a)) : s = s' ∧ b = b' := by
  rcases h1 with ⟨rfl, m1, a1⟩ | ⟨rfl, rfl, n1⟩ <;> rcases h2 with ⟨rfl, m2, a2⟩ | ⟨rfl, rfl, n2⟩
  · refine ⟨?_, rfl⟩
    have m1' := h.perm.symm.subset m1
    obtain ⟨i, hi, rfl⟩ := List.getElem_of_mem m1'
    obtain ⟨j, hj, rfl⟩ := List.getElem_of_mem m2
    have hp2 := List.pairwise_iff_getElem.1 h.adr
    rcases Nat.lt_trichotomy i j with hij | hij | hij
    · exact absurd (a1.trans a2.symm) (hp2 i j hi hj hij)
    · subst hij; rfl
    · exact absurd (a2.trans a1.symm) (hp2 j i hj hi hij)
  · exact absurd a1 (n2 s (h.perm.symm.subset m1))
  · exact absurd a2 (n1 s' (h.perm.subset m2))
  · exact ⟨rfl, rfl⟩
end Go.Proofs.Ytmgphfdieekpdaa
