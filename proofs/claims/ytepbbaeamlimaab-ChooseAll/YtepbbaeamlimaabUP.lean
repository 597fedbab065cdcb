/- choose, in lists: who counts, ends as whole numbers, where more than half meet, who survives (no run of the model in this text). -/
import Derived.Test.YtepbbaeamlimaabPP
namespace Ch
open Pu
/-- a candidate -/
structure Cn where
  id : Int
  o : Int
  d : Int
  j : Int
  s : Int
  pf : Bool
  pu : Bool
def ct (c : Cn) : Bool := decide (0 ≤ c.d ∧ c.d ≤ 4503599627370496 ∧ -1152921504606846976 ≤ c.o ∧ c.o ≤ 1152921504606846976)
theorem ct_iff {c : Cn} : ct c = true ↔ 0 ≤ c.d ∧ c.d ≤ 4503599627370496 ∧ -1152921504606846976 ≤ c.o ∧ c.o ≤ 1152921504606846976 := by unfold ct; rw [decide_eq_true_iff]
/-- those that count -/
def th (l : List Cn) : List Cn := (l.filter ct).take 64
theorem th_len (l : List Cn) : (th l).length ≤ 64 := by unfold th; rw [List.length_take]; omega
theorem th_nil : th [] = [] := rfl
theorem th_full {l : List Cn} {k : Nat} (h : (th (l.take k)).length = 64) : th l = th (l.take k) := by
  unfold th at *
  have e : l.filter ct = (l.take k).filter ct ++ (l.drop k).filter ct := by rw [← List.filter_append, List.take_append_drop]
  rw [e, List.take_append_of_le_length]
  rw [List.length_take] at h; omega
theorem th_step {l : List Cn} {k : Nat} {c : Cn} (hk : l[k]? = some c) (h : (th (l.take k)).length < 64) : th (l.take (k + 1)) = if ct c = true then th (l.take k) ++ [c] else th (l.take k) := by
  have hl : k < l.length := by
    rcases Nat.lt_or_ge k l.length with h | h
    · exact h
    · rw [List.getElem?_eq_none h] at hk; cases hk
  have e : l.take (k + 1) = l.take k ++ [c] := by
    rw [List.take_succ_eq_append_getElem hl]; rw [List.getElem?_eq_getElem hl] at hk; rw [Option.some.inj hk]
  unfold th at *
  rw [List.length_take] at h
  rw [e, List.filter_append]
  generalize (l.take k).filter ct = X at *
  by_cases hc : ct c = true
  · rw [if_pos hc, List.filter_cons_of_pos hc, List.filter_nil, List.take_of_length_le (l := X) (by omega), List.take_of_length_le (by rw [List.length_append]; simp; omega)]
  · rw [if_neg hc, List.filter_cons_of_neg hc, List.filter_nil, List.append_nil]
theorem th_ct {l : List Cn} {c : Cn} (h : c ∈ th l) : ct c = true := (List.mem_filter.1 (List.mem_of_mem_take h)).2
theorem th_short {l : List Cn} (h : l.length ≤ 64) : th l = l.filter ct := by
  unfold th
  exact List.take_of_length_le (Nat.le_trans (List.length_filter_le _ _) h)
theorem th_all {l : List Cn} (h : l.length ≤ 64) (hc : ∀ c ∈ l, ct c = true) : th l = l := by
  rw [th_short h, List.filter_eq_self.2 hc]
theorem th_th {l : List Cn} (h : l.length ≤ 64) : th (l.filter ct) = th l := by
  rw [th_short h, th_short (Nat.le_trans (List.length_filter_le _ _) h), List.filter_filter]
  simp
def lo (c : Cn) : Int := (c.o - c.d) / 65536
def mi (c : Cn) : Int := c.o / 65536
def hi (c : Cn) : Int := -(-(c.o + c.d) / 65536)
/-- an end as a number: its place, and its kind -/
def plc (z : Int) : Int := (z + 1) / 3
def kd (z : Int) : Int := z - 3 * plc z
def zl (c : Cn) : Int := 3 * lo c - 1
def zm (c : Cn) : Int := 3 * mi c
def zh (c : Cn) : Int := 3 * hi c + 1
theorem kd_bd (z : Int) : kd z = -1 ∨ kd z = 0 ∨ kd z = 1 := by unfold kd plc; omega
theorem plc_l (c : Cn) : plc (zl c) = lo c ∧ kd (zl c) = -1 := by unfold kd plc zl; omega
theorem plc_m (c : Cn) : plc (zm c) = mi c ∧ kd (zm c) = 0 := by unfold kd plc zm; omega
theorem plc_h (c : Cn) : plc (zh c) = hi c ∧ kd (zh c) = 1 := by unfold kd plc zh; omega
theorem plc_mono {a b : Int} (h : a ≤ b) : plc a ≤ plc b := by unfold plc; omega
theorem z_eq {a b : Int} (h : plc a = plc b) (k : kd a = kd b) : a = b := by unfold kd at k; omega
theorem z_lt (a b : Int) : a < b ↔ plc a < plc b ∨ plc a = plc b ∧ kd a < kd b := by unfold kd plc; omega
def en (c : Cn) : List Int := [zl c, zm c, zh c]
theorem ct_lo {c : Cn} (h : ct c = true) : lo c ≤ mi c ∧ mi c ≤ hi c := by
  have := ct_iff.1 h
  unfold lo mi hi; omega
theorem ct_bd {c : Cn} (h : ct c = true) : -17660905521152 ≤ lo c ∧ lo c ≤ 17660905521152 ∧ -17660905521152 ≤ mi c ∧ mi c ≤ 17660905521152 ∧ -17660905521152 ≤ hi c ∧ hi c ≤ 17660905521152 := by
  have := ct_iff.1 h
  unfold lo mi hi; omega
/-- an end that may be -/
def okZ (z : Int) : Prop := -52982716563457 ≤ z ∧ z ≤ 52982716563457
theorem okZ_plc {z : Int} (h : okZ z) : -17660905521152 ≤ plc z ∧ plc z ≤ 17660905521152 := by unfold okZ at h; unfold plc; omega
theorem en_ok {c : Cn} (h : ct c = true) {z : Int} (hz : z ∈ en c) : okZ z := by
  have := ct_bd h
  unfold en at hz
  simp only [List.mem_cons, List.not_mem_nil, or_false] at hz
  unfold okZ
  rcases hz with rfl | rfl | rfl
  · unfold zl; omega
  · unfold zm; omega
  · unfold zh; omega
def raw (l : List Cn) : List Int := l.flatMap en
theorem raw_nil : raw [] = [] := rfl
theorem raw_cons (c : Cn) (l : List Cn) : raw (c :: l) = zl c :: zm c :: zh c :: raw l := rfl
theorem raw_snoc (l : List Cn) (c : Cn) : raw (l ++ [c]) = raw l ++ en c := by unfold raw; rw [List.flatMap_append]; simp
theorem raw_len (l : List Cn) : (raw l).length = 3 * l.length := by
  induction l with
  | nil => rfl
  | cons c t ih => rw [raw_cons]; simp only [List.length_cons]; omega
/-- all ends, in their order -/
def E (l : List Cn) : List Int := srt (raw (th l))
theorem E_len (l : List Cn) : (E l).length = 3 * (th l).length := by unfold E; rw [srt_len, raw_len]
theorem raw_mem {l : List Cn} {z : Int} (h : z ∈ raw l) : ∃ c ∈ l, z ∈ en c := List.mem_flatMap.1 h
theorem E_ok {l : List Cn} {z : Int} (h : z ∈ E l) : okZ z := by
  obtain ⟨c, hc, hz⟩ := raw_mem (srt_mem.1 h)
  exact en_ok (th_ct hc) hz
/-- from the lowest end on -/
def upR (right : Int) : List Int → Int → Int → Option (Int × Int)
  | [], _, _ => none
  | z :: t, h, m => if h - kd z = right then some (plc z, m) else upR right t (h - kd z) (if kd z = 0 then m + 1 else m)
def dnR (right : Int) : List Int → Int → Int → Option (Int × Int)
  | [], _, _ => none
  | z :: t, h, m => if h + kd z = right then some (plc z, m) else dnR right t (h + kd z) (if kd z = 0 then m + 1 else m)
def pts (es : List Int) (right wrong : Int) : Option (Int × Int) :=
  match upR right es 0 0 with
  | none => none
  | some (a, m) => match dnR right es.reverse 0 m with
    | none => none
    | some (b, k) => if k ≤ wrong ∧ a ≤ b then some (a, b) else none
def mt (es : List Int) (n : Nat) : Option (Int × Int) := (List.range ((n + 1) / 2)).findSome? fun (f : Nat) => pts es ((n : Int) - (f : Int)) (f : Int)
theorem mt_at {es : List Int} {n f : Nat} {r : Int × Int} (hf : 2 * f < n) (h : ∀ g, g < f → pts es ((n : Int) - (g : Int)) (g : Int) = none) (hp : pts es ((n : Int) - (f : Int)) (f : Int) = some r) : mt es n = some r := by
  unfold mt
  have e : List.range ((n + 1) / 2) = List.range f ++ f :: (List.range' (f + 1) ((n + 1) / 2 - f - 1)) := by
    have h1 : (n + 1) / 2 = f + ((n + 1) / 2 - f - 1 + 1) := by omega
    have h2 := List.range'_append_1 (s := 0) (m := f) (n := (n + 1) / 2 - f - 1 + 1)
    rw [← h1, Nat.zero_add] at h2
    rw [List.range_eq_range', List.range_eq_range', ← List.range'_succ, h2]
  rw [e, List.findSome?_append, List.findSome?_eq_none_iff.2 (fun g hg => h g (List.mem_range.1 hg))]
  simp [hp]
theorem mt_none {es : List Int} {n f : Nat} (hf : n ≤ 2 * f) (h : ∀ g, g < f → pts es ((n : Int) - (g : Int)) (g : Int) = none) : mt es n = none := by
  unfold mt
  exact List.findSome?_eq_none_iff.2 fun g hg => h g (by have := List.mem_range.1 hg; omega)
theorem mt_some {es : List Int} {n : Nat} {r : Int × Int} (h : mt es n = some r) : ∃ f : Nat, 2 * f < n ∧ pts es ((n : Int) - (f : Int)) (f : Int) = some r := by
  unfold mt at h
  obtain ⟨f, hf, hp⟩ := List.exists_of_findSome?_eq_some h
  exact ⟨f, by have := List.mem_range.1 hf; omega, hp⟩
/-- those that survive -/
def sv (l : List Cn) : List Cn :=
  match mt (E l) (th l).length with
  | none => []
  | some (a, b) => (th l).filter fun c => decide (a * 65536 ≤ mi c * 65536 ∧ mi c * 65536 ≤ b * 65536)
theorem sv_none {l : List Cn} (h : mt (E l) (th l).length = none) : sv l = [] := by unfold sv; rw [h]
theorem sv_some {l : List Cn} {a b : Int} (h : mt (E l) (th l).length = some (a, b)) : sv l = (th l).filter fun c => decide (a * 65536 ≤ mi c * 65536 ∧ mi c * 65536 ≤ b * 65536) := by unfold sv; rw [h]
/-- the sum of kinds -/
def ks (l : List Int) : Int := (l.map kd).sum
theorem ks_nil : ks [] = 0 := rfl
theorem ks_cons (z : Int) (l : List Int) : ks (z :: l) = kd z + ks l := by unfold ks; simp
theorem ks_append (a b : List Int) : ks (a ++ b) = ks a + ks b := by unfold ks; simp
theorem ks_perm {a b : List Int} (h : a.Perm b) : ks a = ks b := by
  induction h with
  | nil => rfl
  | cons x _ ih => rw [ks_cons, ks_cons, ih]
  | swap x y l => simp only [ks_cons]; omega
  | trans _ _ i1 i2 => exact i1.trans i2
theorem ks_raw (l : List Cn) : ks (raw l) = 0 := by
  induction l with
  | nil => rfl
  | cons c t ih => rw [raw_cons, ks_cons, ks_cons, ks_cons, ih, (plc_l c).2, (plc_m c).2, (plc_h c).2]; rfl
theorem ks_E (l : List Cn) : ks (E l) = 0 := by unfold E; rw [ks_perm (srt_perm _)]; exact ks_raw _
theorem ks_rev (l : List Int) : ks l.reverse = ks l := ks_perm (List.reverse_perm l)
/-- how many middles -/
def ms (l : List Int) : Nat := l.countP fun z => decide (kd z = 0)
theorem up_some {right : Int} : ∀ {l : List Int} {h m p k : Int}, h < right → upR right l h m = some (p, k) → ∃ (a : List Int) (z : Int) (b : List Int), l = a ++ z :: b ∧ p = plc z ∧ kd z = -1 ∧ h - ks (a ++ [z]) = right ∧ k = m + (ms a : Int)
  | [], h, m, p, k, _, e => by cases e
  | z :: t, h, m, p, k, hr, e => by
    unfold upR at e
    by_cases hc : h - kd z = right
    · rw [if_pos hc] at e
      injection e with e
      injection e with e1 e2
      have hk : kd z = -1 := by have := kd_bd z; omega
      exact ⟨[], z, t, rfl, e1.symm, hk, by rw [List.nil_append, ks_cons, ks_nil]; omega, by rw [← e2]; simp [ms]⟩
    · rw [if_neg hc] at e
      obtain ⟨a, y, b, h1, h2, h3, h4, h5⟩ := up_some (by have := kd_bd z; omega) e
      refine ⟨z :: a, y, b, by rw [h1]; rfl, h2, h3, by rw [List.cons_append, ks_cons]; omega, ?_⟩
      rw [h5]
      unfold ms
      rw [List.countP_cons]
      by_cases h0 : kd z = 0
      · simp [h0]; omega
      · simp [h0]
theorem dn_some {right : Int} : ∀ {l : List Int} {h m p k : Int}, h < right → dnR right l h m = some (p, k) → ∃ (a : List Int) (z : Int) (b : List Int), l = a ++ z :: b ∧ p = plc z ∧ kd z = 1 ∧ h + ks (a ++ [z]) = right ∧ k = m + (ms a : Int)
  | [], h, m, p, k, _, e => by cases e
  | z :: t, h, m, p, k, hr, e => by
    unfold dnR at e
    by_cases hc : h + kd z = right
    · rw [if_pos hc] at e
      injection e with e
      injection e with e1 e2
      have hk : kd z = 1 := by have := kd_bd z; omega
      exact ⟨[], z, t, rfl, e1.symm, hk, by rw [List.nil_append, ks_cons, ks_nil]; omega, by rw [← e2]; simp [ms]⟩
    · rw [if_neg hc] at e
      obtain ⟨a, y, b, h1, h2, h3, h4, h5⟩ := dn_some (by have := kd_bd z; omega) e
      refine ⟨z :: a, y, b, by rw [h1]; rfl, h2, h3, by rw [List.cons_append, ks_cons]; omega, ?_⟩
      rw [h5]
      unfold ms
      rw [List.countP_cons]
      by_cases h0 : kd z = 0
      · simp [h0]; omega
      · simp [h0]
theorem dn_none {right : Int} : ∀ {l : List Int} {h m : Int}, dnR right l h m = none → ∀ a z b, l = a ++ z :: b → h + ks (a ++ [z]) ≠ right
  | [], _, _, _, a, z, b, e => by cases a <;> cases e
  | y :: t, h, m, e, a, z, b, hl => by
    unfold dnR at e
    by_cases hc : h + kd y = right
    · rw [if_pos hc] at e; cases e
    · rw [if_neg hc] at e
      cases a with
      | nil =>
        rw [List.nil_append] at hl
        injection hl with e1 e2
        subst e1
        rw [List.nil_append, ks_cons, ks_nil]
        omega
      | cons x a =>
        rw [List.cons_append] at hl
        injection hl with e1 e2
        subst e1
        have := dn_none e a z b e2
        rw [List.cons_append, ks_cons]
        omega
/-- what is reached from below is reached from above -/
theorem both {right : Int} {es : List Int} {m p k : Int} (h0 : ks es = 0) (hr : 0 < right) (h : upR right es 0 0 = some (p, k)) : dnR right es.reverse 0 m ≠ none := by
  intro hn
  obtain ⟨a, z, b, h1, _, _, h4, _⟩ := up_some (by omega) h
  have hb : ks b = right := by
    rw [h1, ← List.singleton_append, ← List.append_assoc, ks_append] at h0
    omega
  cases b with
  | nil => rw [ks_nil] at hb; omega
  | cons y b =>
    refine dn_none hn b.reverse y (z :: a.reverse) ?_ ?_
    · rw [h1]; simp
    · rw [← List.reverse_cons, ks_rev, hb]; omega
end Ch
