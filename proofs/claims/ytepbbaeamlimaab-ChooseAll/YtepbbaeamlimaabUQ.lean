/- choose, in lists: what follows for those that say the same, that are apart, that hold the truth, in another order (no run of the model in this text). -/
import Derived.Test.YtepbbaeamlimaabUP
namespace Ch
open Pu
def mtl (l : List Cn) : Option (Int × Int) := mt (E l) (th l).length
/-- sums over ends -/
def sm (f : Int → Int) (l : List Int) : Int := (l.map f).sum
theorem sm_nil (f : Int → Int) : sm f [] = 0 := rfl
theorem sm_cons (f : Int → Int) (x : Int) (l : List Int) : sm f (x :: l) = f x + sm f l := by unfold sm; simp
theorem sm_append (f : Int → Int) (a b : List Int) : sm f (a ++ b) = sm f a + sm f b := by unfold sm; simp
theorem sm_perm (f : Int → Int) {a b : List Int} (h : a.Perm b) : sm f a = sm f b := by
  induction h with
  | nil => rfl
  | cons x _ ih => rw [sm_cons, sm_cons, ih]
  | swap x y l => simp only [sm_cons]; omega
  | trans _ _ i1 i2 => exact i1.trans i2
theorem sm_le {f g : Int → Int} {l : List Int} (h : ∀ x ∈ l, f x ≤ g x) : sm f l ≤ sm g l := by
  induction l with
  | nil => exact Int.le_refl _
  | cons x t ih =>
    rw [sm_cons, sm_cons]
    have h1 := h x (List.mem_cons_self ..)
    have h2 := ih fun y hy => h y (List.mem_cons_of_mem _ hy)
    omega
theorem sm_raw_le (f : Int → Int) (p : Cn → Bool) (cs : List Cn) (h : ∀ c ∈ cs, f (zl c) + f (zm c) + f (zh c) ≤ if p c = true then 1 else 0) : sm f (raw cs) ≤ (cs.countP p : Int) := by
  induction cs with
  | nil => exact Int.le_refl _
  | cons c t ih =>
    rw [raw_cons, sm_cons, sm_cons, sm_cons, List.countP_cons]
    have h1 := h c (List.mem_cons_self ..)
    have h2 := ih fun y hy => h y (List.mem_cons_of_mem _ hy)
    by_cases hp : p c = true
    · rw [if_pos hp] at h1 ⊢; push_cast; omega
    · rw [if_neg hp] at h1 ⊢; push_cast; omega
theorem sorted_split {a b : List Int} {z : Int} (h : (a ++ z :: b).Pairwise (· ≤ ·)) : (∀ x ∈ a, x ≤ z) ∧ ∀ x ∈ b, z ≤ x := by
  rw [List.pairwise_append, List.pairwise_cons] at h
  exact ⟨fun x hx => h.2.2 x hx z (List.mem_cons_self ..), h.2.1.1⟩
theorem z_ok {c : Cn} (h : ct c = true) : zl c ≤ zm c ∧ zm c ≤ zh c := by have := ct_lo h; unfold zl zm zh; omega
def hol (z : Int) (c : Cn) : Bool := decide (zl c ≤ z ∧ z ≤ zh c)
/-- as many as were counted from below hold the place -/
theorem hold_up {cs : List Cn} {es a b : List Int} {z : Int} (hct : ∀ c ∈ cs, ct c = true) (hp : es.Perm (raw cs)) (hs : es.Pairwise (· ≤ ·)) (e : es = a ++ z :: b) : -ks (a ++ [z]) ≤ (cs.countP (hol z) : Int) := by
  have hd := sorted_split (e ▸ hs)
  let g : Int → Int := fun x => (if kd x = -1 ∧ x ≤ z then 1 else 0) - (if kd x = 1 ∧ x < z then 1 else 0)
  have h1 : -ks (a ++ [z]) ≤ sm g (a ++ [z]) := by
    have : -ks (a ++ [z]) = sm (fun x => -kd x) (a ++ [z]) := by
      generalize a ++ [z] = l
      induction l with
      | nil => rfl
      | cons x t ih => rw [ks_cons, sm_cons, ← ih]; omega
    rw [this]
    refine sm_le fun x hx => ?_
    have hx2 : x ≤ z := by
      rcases List.mem_append.1 hx with h | h
      · exact hd.1 x h
      · simp at h; omega
    show -kd x ≤ (if kd x = -1 ∧ x ≤ z then 1 else 0) - (if kd x = 1 ∧ x < z then 1 else 0)
    have := kd_bd x
    split <;> split <;> omega
  have h2 : 0 ≤ sm g b := by
    have : sm (fun _ => 0) b = 0 := by
      generalize b = l
      induction l with
      | nil => rfl
      | cons x t ih => rw [sm_cons, ih]; rfl
    rw [← this]
    refine sm_le fun x hx => ?_
    have := hd.2 x hx
    show 0 ≤ (if kd x = -1 ∧ x ≤ z then 1 else 0) - (if kd x = 1 ∧ x < z then (1 : Int) else 0)
    split <;> split <;> omega
  have h3 : sm g es ≤ (cs.countP (hol z) : Int) := by
    rw [sm_perm g hp]
    refine sm_raw_le g (hol z) cs fun c hc => ?_
    have h4 := z_ok (hct c hc)
    have g1 : g (zl c) = if zl c ≤ z then 1 else 0 := by
      show (if kd (zl c) = -1 ∧ zl c ≤ z then (1 : Int) else 0) - (if kd (zl c) = 1 ∧ zl c < z then 1 else 0) = _
      rw [(plc_l c).2]; simp
    have g2 : g (zm c) = 0 := by
      show (if kd (zm c) = -1 ∧ zm c ≤ z then (1 : Int) else 0) - (if kd (zm c) = 1 ∧ zm c < z then 1 else 0) = _
      rw [(plc_m c).2]; simp
    have g3 : g (zh c) = -(if zh c < z then 1 else 0) := by
      show (if kd (zh c) = -1 ∧ zh c ≤ z then (1 : Int) else 0) - (if kd (zh c) = 1 ∧ zh c < z then 1 else 0) = _
      rw [(plc_h c).2]; simp
    rw [g1, g2, g3]
    by_cases q1 : zl c ≤ z
    · by_cases q2 : zh c < z
      · rw [if_pos q1, if_pos q2]; split <;> omega
      · rw [if_pos q1, if_neg q2, if_pos (by unfold hol; rw [decide_eq_true_iff]; omega)]; omega
    · rw [if_neg q1, if_neg (show ¬ zh c < z by omega)]; split <;> omega
  rw [e, ← List.singleton_append, ← List.append_assoc, sm_append] at h3
  omega
theorem hold_dn {cs : List Cn} {es a b : List Int} {z : Int} (hct : ∀ c ∈ cs, ct c = true) (hp : es.Perm (raw cs)) (hs : es.Pairwise (· ≤ ·)) (e : es = a ++ z :: b) : ks (z :: b) ≤ (cs.countP (hol z) : Int) := by
  have hd := sorted_split (e ▸ hs)
  let g : Int → Int := fun x => (if kd x = 1 ∧ z ≤ x then 1 else 0) - (if kd x = -1 ∧ z < x then 1 else 0)
  have h1 : ks (z :: b) ≤ sm g (z :: b) := by
    have : ks (z :: b) = sm kd (z :: b) := rfl
    rw [this]
    refine sm_le fun x hx => ?_
    have hx2 : z ≤ x := by
      rcases List.mem_cons.1 hx with h | h
      · omega
      · exact hd.2 x h
    show kd x ≤ (if kd x = 1 ∧ z ≤ x then 1 else 0) - (if kd x = -1 ∧ z < x then 1 else 0)
    have := kd_bd x
    split <;> split <;> omega
  have h2 : 0 ≤ sm g a := by
    have : sm (fun _ => 0) a = 0 := by
      generalize a = l
      induction l with
      | nil => rfl
      | cons x t ih => rw [sm_cons, ih]; rfl
    rw [← this]
    refine sm_le fun x hx => ?_
    have := hd.1 x hx
    show 0 ≤ (if kd x = 1 ∧ z ≤ x then 1 else 0) - (if kd x = -1 ∧ z < x then (1 : Int) else 0)
    split <;> split <;> omega
  have h3 : sm g es ≤ (cs.countP (hol z) : Int) := by
    rw [sm_perm g hp]
    refine sm_raw_le g (hol z) cs fun c hc => ?_
    have h4 := z_ok (hct c hc)
    have g1 : g (zl c) = -(if z < zl c then 1 else 0) := by
      show (if kd (zl c) = 1 ∧ z ≤ zl c then (1 : Int) else 0) - (if kd (zl c) = -1 ∧ z < zl c then 1 else 0) = _
      rw [(plc_l c).2]; simp
    have g2 : g (zm c) = 0 := by
      show (if kd (zm c) = 1 ∧ z ≤ zm c then (1 : Int) else 0) - (if kd (zm c) = -1 ∧ z < zm c then 1 else 0) = _
      rw [(plc_m c).2]; simp
    have g3 : g (zh c) = if z ≤ zh c then 1 else 0 := by
      show (if kd (zh c) = 1 ∧ z ≤ zh c then (1 : Int) else 0) - (if kd (zh c) = -1 ∧ z < zh c then 1 else 0) = _
      rw [(plc_h c).2]; simp
    rw [g1, g2, g3]
    by_cases q1 : z ≤ zh c
    · by_cases q2 : z < zl c
      · rw [if_pos q1, if_pos q2]; split <;> omega
      · rw [if_pos q1, if_neg q2, if_pos (by unfold hol; rw [decide_eq_true_iff]; omega)]; omega
    · rw [if_neg q1, if_neg (show ¬ z < zl c by omega)]; split <;> omega
  rw [e, sm_append] at h3
  omega
theorem pigeon {α : Type} (p q : α → Bool) : ∀ l : List α, l.length < l.countP p + l.countP q → ∃ c ∈ l, p c = true ∧ q c = true
  | [], h => by simp at h
  | c :: t, h => by
    rw [List.countP_cons, List.countP_cons, List.length_cons] at h
    by_cases hp : p c = true
    · by_cases hq : q c = true
      · exact ⟨c, List.mem_cons_self .., hp, hq⟩
      · rw [if_pos hp, if_neg hq] at h
        obtain ⟨d, h1, h2⟩ := pigeon p q t (by omega)
        exact ⟨d, List.mem_cons_of_mem _ h1, h2⟩
    · rw [if_neg hp] at h
      obtain ⟨d, h1, h2⟩ := pigeon p q t (by split at h <;> omega)
      exact ⟨d, List.mem_cons_of_mem _ h1, h2⟩
/-- what is known of the two points -/
structure Pt (l : List Cn) (a b : Int) (f : Nat) (a1 b1 a2 b2 : List Int) (z1 z2 : Int) : Prop where
  hf : 2 * f < (th l).length
  e1 : E l = a1 ++ z1 :: b1
  e2 : E l = a2 ++ z2 :: b2
  p1 : a = plc z1
  p2 : b = plc z2
  k1 : kd z1 = -1
  k2 : kd z2 = 1
  s1 : -ks (a1 ++ [z1]) = ((th l).length : Int) - f
  s2 : ks (z2 :: b2) = ((th l).length : Int) - f
  mm : (ms a1 : Int) + (ms b2 : Int) ≤ f
  le : a ≤ b
theorem ms_rev (l : List Int) : ms l.reverse = ms l := by unfold ms; exact (List.reverse_perm l).countP_eq _
theorem pt_of {l : List Cn} {a b : Int} (h : mtl l = some (a, b)) : ∃ f a1 b1 a2 b2 z1 z2, Pt l a b f a1 b1 a2 b2 z1 z2 := by
  obtain ⟨f, hf, hp⟩ := mt_some h
  have hpos : (0 : Int) < ((th l).length : Int) - (f : Int) := by omega
  unfold pts at hp
  split at hp
  · cases hp
  · rename_i p m hu
    split at hp
    · cases hp
    · rename_i q k hd
      split at hp
      · rename_i hc
        injection hp with hp
        injection hp with ea eb
        obtain ⟨a1, z1, b1, h1, h2, h3, h4, h5⟩ := up_some hpos hu
        obtain ⟨a2, z2, b2, j1, j2, j3, j4, j5⟩ := dn_some hpos hd
        have er : E l = b2.reverse ++ z2 :: a2.reverse := by
          have := congrArg List.reverse j1
          rw [List.reverse_reverse] at this
          rw [this]; simp
        refine ⟨f, a1, b1, b2.reverse, a2.reverse, z1, z2, ⟨hf, h1, er, by rw [← ea]; exact h2, by rw [← eb]; exact j2, h3, j3, by omega, ?_, ?_, by omega⟩⟩
        · have e9 : z2 :: a2.reverse = (a2 ++ [z2]).reverse := by simp
          rw [e9, ks_rev]; omega
        · rw [ms_rev]; omega
      · cases hp
theorem E_perm (l : List Cn) : (E l).Perm (raw (th l)) := srt_perm _
theorem E_sorted (l : List Cn) : (E l).Pairwise (· ≤ ·) := srt_sorted _
def tru (t most : Int) (c : Cn) : Bool := decide (c.o - c.d ≤ t ∧ t ≤ c.o + c.d ∧ c.d ≤ most)
theorem hol_near {c : Cn} {z t most : Int} (h : hol z c = true) (k : tru t most c = true) : plc z * 65536 - t ≤ 2 * most + 65535 ∧ t - plc z * 65536 ≤ 2 * most + 65535 := by
  unfold hol at h
  unfold tru at k
  rw [decide_eq_true_iff] at h k
  have h1 := plc_mono h.1
  have h2 := plc_mono h.2
  rw [(plc_l c).1] at h1
  rw [(plc_h c).1] at h2
  unfold lo at h1
  unfold hi at h2
  omega
/-- a majority that holds the truth: both points are near it -/
theorem near_truth {l : List Cn} {a b t most : Int} (h : mtl l = some (a, b)) (hq : (th l).length < 2 * (th l).countP (tru t most)) : (a * 65536 - t ≤ 2 * most + 65535 ∧ t - a * 65536 ≤ 2 * most + 65535) ∧ (b * 65536 - t ≤ 2 * most + 65535 ∧ t - b * 65536 ≤ 2 * most + 65535) := by
  obtain ⟨f, a1, b1, a2, b2, z1, z2, P⟩ := pt_of h
  have hf := P.hf
  have hct : ∀ c ∈ th l, ct c = true := fun c hc => th_ct hc
  have h1 := hold_up hct (E_perm l) (E_sorted l) P.e1
  have h2 := hold_dn hct (E_perm l) (E_sorted l) P.e2
  rw [P.s1] at h1
  rw [P.s2] at h2
  obtain ⟨c, _, c1, c2⟩ := pigeon (hol z1) (tru t most) (th l) (by omega)
  obtain ⟨d, _, d1, d2⟩ := pigeon (hol z2) (tru t most) (th l) (by omega)
  rw [P.p1, P.p2]
  exact ⟨hol_near c1 c2, hol_near d1 d2⟩
theorem mid_count (r : Int → Bool) (hr : ∀ z, r z = true → kd z = 0) (p : Cn → Bool) (hp : ∀ c, r (zm c) = p c) (cs : List Cn) : (raw cs).countP r = cs.countP p := by
  induction cs with
  | nil => rfl
  | cons c t ih =>
    rw [raw_cons, List.countP_cons, List.countP_cons, List.countP_cons, List.countP_cons, ih, hp c]
    have h1 : ¬ r (zl c) = true := fun h => by have := hr _ h; rw [(plc_l c).2] at this; cases this
    have h2 : ¬ r (zh c) = true := fun h => by have := hr _ h; rw [(plc_h c).2] at this; cases this
    rw [if_neg h1, if_neg h2]
    rfl
/-- those outside are few -/
theorem out_lo {l : List Cn} {a1 b1 : List Int} {z1 : Int} (e : E l = a1 ++ z1 :: b1) : (th l).countP (fun c => decide (mi c < plc z1)) ≤ ms a1 := by
  have hd := sorted_split (e ▸ E_sorted l)
  rw [← mid_count (fun z => decide (kd z = 0 ∧ plc z < plc z1)) (fun z hz => (of_decide_eq_true hz).1) (fun c => decide (mi c < plc z1)) (fun c => by rw [decide_eq_decide, (plc_m c).1, (plc_m c).2]; simp), ← (E_perm l).countP_eq, e, List.countP_append]
  have h0 : (z1 :: b1).countP (fun z => decide (kd z = 0 ∧ plc z < plc z1)) = 0 := by
    rw [List.countP_eq_zero]
    intro x hx
    have hz : z1 ≤ x := by
      rcases List.mem_cons.1 hx with h | h
      · omega
      · exact hd.2 x h
    have := plc_mono hz
    simp
    omega
  rw [h0]
  unfold ms
  exact List.countP_mono_left fun x _ hx => by simp at hx ⊢; exact hx.1
theorem out_hi {l : List Cn} {a2 b2 : List Int} {z2 : Int} (e : E l = a2 ++ z2 :: b2) : (th l).countP (fun c => decide (plc z2 < mi c)) ≤ ms b2 := by
  have hd := sorted_split (e ▸ E_sorted l)
  rw [← mid_count (fun z => decide (kd z = 0 ∧ plc z2 < plc z)) (fun z hz => (of_decide_eq_true hz).1) (fun c => decide (plc z2 < mi c)) (fun c => by rw [decide_eq_decide, (plc_m c).1, (plc_m c).2]; simp), ← (E_perm l).countP_eq, e, ← List.singleton_append, ← List.append_assoc, List.countP_append]
  have h0 : (a2 ++ [z2]).countP (fun z => decide (kd z = 0 ∧ plc z2 < plc z)) = 0 := by
    rw [List.countP_eq_zero]
    intro x hx
    have hz : x ≤ z2 := by
      rcases List.mem_append.1 hx with h | h
      · exact hd.1 x h
      · simp at h; omega
    have := plc_mono hz
    simp
    omega
  rw [h0, Nat.zero_add]
  unfold ms
  exact List.countP_mono_left fun x _ hx => by simp at hx ⊢; exact hx.1
theorem countP_three {α : Type} (p q r : α → Bool) (h : ∀ c, p c = true ∨ q c = true ∨ r c = true) : ∀ l : List α, l.length ≤ l.countP p + l.countP q + l.countP r
  | [] => by simp
  | c :: t => by
    rw [List.countP_cons, List.countP_cons, List.countP_cons, List.length_cons]
    have := countP_three p q r h t
    rcases h c with h | h | h
    · rw [if_pos h]; omega
    · rw [if_pos h]; omega
    · rw [if_pos h]; omega
/-- more than half survive -/
theorem sv_most {l : List Cn} {a b : Int} (h : mtl l = some (a, b)) : (th l).length < 2 * (sv l).length := by
  obtain ⟨f, a1, b1, a2, b2, z1, z2, P⟩ := pt_of h
  have hf := P.hf
  have h1 := out_lo P.e1
  have h2 := out_hi P.e2
  rw [← P.p1] at h1
  rw [← P.p2] at h2
  have h3 := P.mm
  rw [sv_some h, ← List.countP_eq_length_filter]
  have h4 := countP_three (fun c => decide (a * 65536 ≤ mi c * 65536 ∧ mi c * 65536 ≤ b * 65536)) (fun c => decide (mi c < a)) (fun c => decide (b < mi c)) (fun c => by simp only [decide_eq_true_eq]; omega) (th l)
  omega
/-- what all hold lies between -/
theorem all_hold {l : List Cn} {a b t : Int} (h : mtl l = some (a, b)) (ha : ∀ c ∈ th l, c.o - c.d ≤ t ∧ t ≤ c.o + c.d) : a * 65536 ≤ t ∧ t ≤ b * 65536 := by
  obtain ⟨f, a1, b1, a2, b2, z1, z2, P⟩ := pt_of h
  have m1 : z1 ∈ E l := by rw [P.e1]; simp
  have m2 : z2 ∈ E l := by rw [P.e2]; simp
  obtain ⟨c, hc, hz⟩ := raw_mem (srt_mem.1 m1)
  obtain ⟨d, hd, hy⟩ := raw_mem (srt_mem.1 m2)
  have k1 := P.k1
  have k2 := P.k2
  unfold en at hz hy
  simp only [List.mem_cons, List.not_mem_nil, or_false] at hz hy
  have e1 : z1 = zl c := by
    rcases hz with e | e | e
    · exact e
    · rw [e, (plc_m c).2] at k1; cases k1
    · rw [e, (plc_h c).2] at k1; cases k1
  have e2 : z2 = zh d := by
    rcases hy with e | e | e
    · rw [e, (plc_l d).2] at k2; cases k2
    · rw [e, (plc_m d).2] at k2; cases k2
    · exact e
  rw [P.p1, P.p2, e1, e2, (plc_l c).1, (plc_h d).1]
  have q1 := ha c hc
  have q2 := ha d hd
  unfold lo hi
  omega
/-- in another order -/
theorem th_perm {l m : List Cn} (h : l.Perm m) (hl : l.length ≤ 64) : (th l).Perm (th m) := by
  rw [th_short hl, th_short (by rw [← h.length_eq]; exact hl)]
  exact h.filter _
theorem E_same {l m : List Cn} (h : (th l).Perm (th m)) : E l = E m := by
  unfold E
  exact srt_eq ((srt_perm _).trans (h.flatMap_right en).symm) (srt_sorted _)
theorem mtl_same {l m : List Cn} (h : (th l).Perm (th m)) : mtl l = mtl m := by
  unfold mtl
  rw [E_same h, h.length_eq]
theorem sv_same {l m : List Cn} (h : (th l).Perm (th m)) : (sv l).length = (sv m).length := by
  have e := mtl_same h
  unfold mtl at e
  unfold sv
  rw [e]
  cases hq : mt (E m) (th m).length with
  | none => rfl
  | some r => exact (h.filter _).length_eq
/-- those that say the same -/
theorem up_rep {right z : Int} (hz : kd z = -1) (t : List Int) : ∀ (k : Nat) (h m : Int), 0 < k → h + k = right → upR right (List.replicate k z ++ t) h m = some (plc z, m)
  | 0, _, _, h0, _ => by omega
  | k + 1, h, m, _, hr => by
    rw [List.replicate_succ, List.cons_append, upR, hz]
    by_cases hk : k = 0
    · rw [if_pos (by omega)]
    · rw [if_neg (by omega), if_neg (by decide)]
      exact up_rep hz t k _ m (by omega) (by omega)
theorem dn_rep {right z : Int} (hz : kd z = 1) (t : List Int) : ∀ (k : Nat) (h m : Int), 0 < k → h + k = right → dnR right (List.replicate k z ++ t) h m = some (plc z, m)
  | 0, _, _, h0, _ => by omega
  | k + 1, h, m, _, hr => by
    rw [List.replicate_succ, List.cons_append, dnR, hz]
    by_cases hk : k = 0
    · rw [if_pos (by omega)]
    · rw [if_neg (by omega), if_neg (by decide)]
      exact dn_rep hz t k _ m (by omega) (by omega)
theorem raw_same {c : Cn} : ∀ {l : List Cn}, (∀ x ∈ l, x.o = c.o ∧ x.d = c.d) → (List.replicate l.length (zl c) ++ (List.replicate l.length (zm c) ++ List.replicate l.length (zh c))).Perm (raw l)
  | [], _ => List.Perm.nil
  | x :: t, h => by
    have h1 := h x (List.mem_cons_self ..)
    have e1 : zl x = zl c := by unfold zl lo; rw [h1.1, h1.2]
    have e2 : zm x = zm c := by unfold zm mi; rw [h1.1]
    have e3 : zh x = zh c := by unfold zh hi; rw [h1.1, h1.2]
    rw [raw_cons, e1, e2, e3, List.length_cons, List.replicate_succ, List.replicate_succ, List.replicate_succ]
    have ih := raw_same (fun y hy => h y (List.mem_cons_of_mem _ hy))
    refine List.Perm.trans ?_ ((((ih.cons (zh c)).cons (zm c)).cons (zl c)))
    rw [List.cons_append]
    refine List.Perm.cons _ ?_
    rw [List.cons_append]
    refine List.perm_middle.trans (List.Perm.cons _ ?_)
    rw [← List.append_assoc, ← List.append_assoc]
    exact List.perm_middle
theorem same_mt {l : List Cn} {c : Cn} (h0 : 0 < l.length) (h64 : l.length ≤ 64) (hc : ct c = true) (h : ∀ x ∈ l, x.o = c.o ∧ x.d = c.d) : mtl l = some (lo c, hi c) ∧ sv l = l := by
  have hct : ∀ x ∈ l, ct x = true := fun x hx => by
    have := ct_iff.1 hc
    rw [ct_iff, (h x hx).1, (h x hx).2]
    exact this
  have ht : th l = l := th_all h64 hct
  have hz := z_ok hc
  have eE : E l = List.replicate l.length (zl c) ++ (List.replicate l.length (zm c) ++ List.replicate l.length (zh c)) := by
    unfold E
    rw [ht]
    refine srt_eq (raw_same h) ?_
    rw [List.pairwise_append, List.pairwise_append]
    refine ⟨?_, ⟨?_, ?_, ?_⟩, ?_⟩
    · rw [List.pairwise_replicate]; exact .inr (Int.le_refl _)
    · rw [List.pairwise_replicate]; exact .inr (Int.le_refl _)
    · rw [List.pairwise_replicate]; exact .inr (Int.le_refl _)
    · intro x hx y hy
      rw [(List.mem_replicate.1 hx).2, (List.mem_replicate.1 hy).2]; exact hz.2
    · intro x hx y hy
      rw [(List.mem_replicate.1 hx).2]
      rcases List.mem_append.1 hy with hy | hy
      · rw [(List.mem_replicate.1 hy).2]; exact hz.1
      · rw [(List.mem_replicate.1 hy).2]; exact Int.le_trans hz.1 hz.2
  have hl := ct_lo hc
  have hm : mtl l = some (lo c, hi c) := by
    unfold mtl
    rw [ht]
    refine mt_at (f := 0) (by omega) (fun g hg => by omega) ?_
    unfold pts
    rw [eE, up_rep (plc_l c).2 _ _ _ _ h0 (by simp), (plc_l c).1]
    simp only [List.reverse_append, List.reverse_replicate, List.append_assoc]
    rw [dn_rep (plc_h c).2 _ _ _ _ h0 (by simp), (plc_h c).1]
    simp only
    rw [if_pos ⟨by simp, by omega⟩]
  refine ⟨hm, ?_⟩
  rw [sv_some hm, ht, List.filter_eq_self]
  intro x hx
  rw [decide_eq_true_iff]
  have e2 : mi x = mi c := by unfold mi; rw [(h x hx).1]
  rw [e2]
  omega
/-- those that are apart -/
theorem up_apart {right : Int} (hr : 2 ≤ right) : ∀ (cs : List Cn) (m : Int), upR right (raw cs) 0 m = none
  | [], m => rfl
  | c :: t, m => by
    rw [raw_cons, upR, (plc_l c).2, if_neg (by omega), upR, (plc_m c).2, if_neg (by omega), upR, (plc_h c).2, if_neg (by omega)]
    exact up_apart hr t _
theorem apart_sorted {cs : List Cn} (hc : ∀ c ∈ cs, ct c = true) (h : cs.Pairwise fun a b => zh a < zl b) : (raw cs).Pairwise (· ≤ ·) := by
  induction cs with
  | nil => exact List.Pairwise.nil
  | cons c t ih =>
    rw [List.pairwise_cons] at h
    have h1 := ih (fun x hx => hc x (List.mem_cons_of_mem _ hx)) h.2
    have hz := z_ok (hc c (List.mem_cons_self ..))
    have hb : ∀ x ∈ raw t, zh c < x := fun x hx => by
      obtain ⟨d, hd, hxd⟩ := raw_mem hx
      have h2 := h.1 d hd
      have h3 := z_ok (hc d (List.mem_cons_of_mem _ hd))
      unfold en at hxd
      simp only [List.mem_cons, List.not_mem_nil, or_false] at hxd
      rcases hxd with rfl | rfl | rfl <;> omega
    rw [raw_cons, List.pairwise_cons, List.pairwise_cons, List.pairwise_cons]
    refine ⟨fun x hx => ?_, fun x hx => ?_, fun x hx => ?_, h1⟩
    · simp only [List.mem_cons] at hx
      rcases hx with rfl | rfl | hx
      · exact hz.1
      · omega
      · have := hb x hx; omega
    · simp only [List.mem_cons] at hx
      rcases hx with rfl | hx
      · exact hz.2
      · have := hb x hx; omega
    · have := hb x hx; omega
theorem apart_mt {cs : List Cn} (h2 : 2 ≤ cs.length) (h64 : cs.length ≤ 64) (hc : ∀ c ∈ cs, ct c = true) (h : cs.Pairwise fun a b => zh a < zl b) : mtl cs = none ∧ sv cs = [] := by
  have ht : th cs = cs := th_all h64 hc
  have eE : E cs = raw cs := by
    unfold E
    rw [ht]
    exact srt_eq (List.Perm.refl _) (apart_sorted hc h)
  have hm : mtl cs = none := by
    unfold mtl
    rw [ht, eE]
    refine mt_none (f := (cs.length + 1) / 2) (by omega) fun g hg => ?_
    unfold pts
    rw [up_apart (by omega)]
  exact ⟨hm, sv_none hm⟩
end Ch
