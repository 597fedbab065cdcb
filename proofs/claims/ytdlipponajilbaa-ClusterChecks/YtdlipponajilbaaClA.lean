/- Candidates: what the document says of them, in lists. Pure. -/
import Derived.Test.YtdlipponajilbaaClP
import Derived.Test.YtdlipponajilbaaAr
namespace Go.Proofs.Ytdlipponajilbaa
open Go Go.Sort
set_option linter.unusedVariables false
theorem St.mg_map {α β : Type} {lt : α → α → Bool} {lt' : β → β → Bool} (f : α → β) (h : ∀ a b, lt' (f a) (f b) = lt a b) : ∀ (U V : List α), St.mg lt' (U.map f) (V.map f) = (St.mg lt U V).map f := by
  intro U
  induction U with
  | nil => intro V; rw [List.map_nil, St.mg_nilL, St.mg_nilL]
  | cons u U ihU =>
    intro V
    induction V with
    | nil => rw [List.map_nil, St.mg_nilR, St.mg_nilR]
    | cons v V ihV =>
      cases hc : lt v u with
      | true => rw [St.mg_lt hc, List.map_cons, List.map_cons, St.mg_lt ((h v u).trans hc), List.map_cons, ← ihV, List.map_cons]
      | false => rw [St.mg_ge hc, List.map_cons, List.map_cons, St.mg_ge ((h v u).trans hc), List.map_cons, ← ihU, List.map_cons]
theorem St.st_map {α β : Type} {lt : α → α → Bool} {lt' : β → β → Bool} (f : α → β) (h : ∀ a b, lt' (f a) (f b) = lt a b) (l : List α) : St.st lt' (l.map f) = (St.st lt l).map f := by
  refine St.rev_ind (C := fun l => St.st lt' (l.map f) = (St.st lt l).map f) l rfl ?_
  intro l x ih
  rw [List.map_append, List.map_cons, List.map_nil, St.st_snoc, St.st_snoc, ih]
  exact St.mg_map f h (St.st lt l) [x]
structure Cn where
  id : Int
  o : Int
  d : Int
  j : Int
  s : Int
  pf : Bool
  pu : Bool
def zCn : Cn := ⟨0, 0, 0, 0, 0, false, false⟩
def i64B (x : Int) : Prop := -9223372036854775808 ≤ x ∧ x ≤ 9223372036854775807
structure okC (c : Cn) : Prop where
  id : i64B c.id
  o : i64B c.o
  d : i64B c.d
  j : i64B c.j
  s : i64B c.s
def scl (a n d : Int) : Int := if d ≤ 0 then 0 else Fx.cl 4611686018427387904 (a * n / d)
def bd62 (x : Int) : Prop := -4611686018427387904 ≤ x ∧ x ≤ 4611686018427387904
theorem cl_bd62 (x : Int) : bd62 (Fx.cl 4611686018427387904 x) := Fx.cl_bd (by decide) x
theorem scl_bd (a n d : Int) : bd62 (scl a n d) := by
  unfold scl
  split
  · exact ⟨by omega, by omega⟩
  · exact cl_bd62 _
def mer (c : Cn) : Int := Fx.cl 4611686018427387904 (c.d + scl 6442450944 c.s 1)
theorem mer_bd (c : Cn) : bd62 (mer c) := cl_bd62 _
def ltc (a b : Cn) : Bool := decide (mer a < mer b ∨ (mer a = mer b ∧ a.id < b.id))
theorem ltc_iff (a b : Cn) : ltc a b = true ↔ (mer a < mer b ∨ (mer a = mer b ∧ a.id < b.id)) := by unfold ltc; rw [decide_eq_true_iff]
theorem ltc_no (a b : Cn) : ltc a b = false ↔ ¬ (mer a < mer b ∨ (mer a = mer b ∧ a.id < b.id)) := by unfold ltc; rw [decide_eq_false_iff_not]
theorem ltc_swo : SWO ltc where
  irrefl x := by rw [ltc_no]; omega
  trans x y z h1 h2 := by
    rw [ltc_iff] at *
    omega
  ntrans x y z h1 h2 := by
    rw [ltc_no] at *
    omega
/-- rated -/
structure Rtd where
  c : Cn
  m : Int
def rt (c : Cn) : Rtd := ⟨c, mer c⟩
def cmI (a b : Int) : Int := if a < b then -1 else if b < a then 1 else 0
def cfR (x y : Rtd) : Int := if cmI x.m y.m = 0 then cmI x.c.id y.c.id else cmI x.m y.m
theorem cfR_lt (x y : Rtd) : cfR x y < 0 ↔ (x.m < y.m ∨ (x.m = y.m ∧ x.c.id < y.c.id)) := by
  unfold cfR cmI
  (repeat' split) <;> omega
def ltR (x y : Rtd) : Bool := decide (cfR x y < 0)
theorem ltR_iff (x y : Rtd) : ltR x y = true ↔ (x.m < y.m ∨ (x.m = y.m ∧ x.c.id < y.c.id)) := by unfold ltR; rw [decide_eq_true_iff]; exact cfR_lt x y
theorem ltR_no (x y : Rtd) : ltR x y = false ↔ ¬ (x.m < y.m ∨ (x.m = y.m ∧ x.c.id < y.c.id)) := by unfold ltR; rw [decide_eq_false_iff_not, cfR_lt]
theorem ltR_swo : SWO ltR where
  irrefl x := by rw [ltR_no]; omega
  trans x y z h1 h2 := by
    rw [ltR_iff] at *
    omega
  ntrans x y z h1 h2 := by
    rw [ltR_no] at *
    omega
theorem ltR_rt (a b : Cn) : ltR (rt a) (rt b) = ltc a b := by
  cases h : ltc a b with
  | true => rw [ltR_iff]; exact (ltc_iff a b).1 h
  | false => rw [ltR_no]; exact (ltc_no a b).1 h
theorem st_rt (l : List Cn) : St.st ltR (l.map rt) = (St.st ltc l).map rt := St.st_map rt ltR_rt l
/-- what the others' offsets differ by -/
def dfC (l : List Cn) (i : Nat) : List Int := (l.eraseIdx i).map fun c => Fx.cl 4611686018427387904 ((l.getD i zCn).o - c.o)
def sj (l : List Cn) (i : Nat) : Int := ((Sq.rms (dfC l i) : Nat) : Int)
theorem sj_bd (l : List Cn) (i : Nat) : 0 ≤ sj l i ∧ sj l i ≤ 4611686018427387904 := by
  unfold sj
  have := Sq.rms_le (dfC l i)
  omega
theorem dfC_ok (l : List Cn) (i : Nat) : okz (dfC l i) := fun z hz => by
  unfold dfC at hz
  obtain ⟨c, _, rfl⟩ := List.mem_map.1 hz
  have := cl_bd62 ((l.getD i zCn).o - c.o)
  unfold bd62 at this
  omega
/-- the worst one of the first k, and its select jitter -/
def wst (l : List Cn) : Nat → Int × Int
  | 0 => (-1, 0)
  | k + 1 => if (l.getD k zCn).pf = false ∧ (wst l k).2 ≤ sj l k then ((k : Int), sj l k) else wst l k
theorem wst_bd (l : List Cn) : ∀ k, (-1 ≤ (wst l k).1 ∧ (wst l k).1 < (k : Int)) ∧ (0 ≤ (wst l k).2 ∧ (wst l k).2 ≤ 4611686018427387904)
  | 0 => by unfold wst; simp
  | k + 1 => by
    have ih := wst_bd l k
    have h2 := sj_bd l k
    unfold wst
    split
    · simp only; omega
    · omega
def qut (l : List Cn) : Nat → Int
  | 0 => (l.getD 0 zCn).j
  | k + 1 => min (qut l k) (l.getD k zCn).j
/-- who goes -/
def goes (l : List Cn) : Option Nat := if (wst l l.length).1 < 0 ∨ (wst l l.length).2 < qut l l.length then none else some (wst l l.length).1.toNat
theorem goes_lt {l : List Cn} {i : Nat} (h : goes l = some i) : i < l.length := by
  unfold goes at h
  split at h
  · cases h
  · injection h with h
    have := wst_bd l l.length
    omega
def clN : Nat → List Cn → List Cn
  | 0, l => l
  | n + 1, l => if l.length ≤ 3 then l else match goes l with
    | none => l
    | some i => clN n (l.eraseIdx i)
def clu (l : List Cn) : List Cn := clN 10 ((St.st ltc l).take 10)
theorem clN_small {n : Nat} {l : List Cn} (h : l.length ≤ 3) : clN n l = l := by
  cases n with
  | zero => rfl
  | succ n => unfold clN; rw [if_pos h]
theorem clN_stay {n : Nat} {l : List Cn} (h : goes l = none) : clN n l = l := by
  cases n with
  | zero => rfl
  | succ n => unfold clN; split; rfl; rw [h]
theorem clN_go {n : Nat} {l : List Cn} {i : Nat} (h3 : 3 < l.length) (h : goes l = some i) : clN (n + 1) l = clN n (l.eraseIdx i) := by
  show (if l.length ≤ 3 then l else match goes l with | none => l | some i => clN n (l.eraseIdx i)) = _
  rw [if_neg (by omega), h]
def wt (c : Cn) : Int := 1099511627776 / max (Fx.sh c.d (-8)) 1
theorem wt_bd (c : Cn) : 0 ≤ wt c ∧ wt c ≤ 1099511627776 := by
  unfold wt
  have h1 : (1 : Int) ≤ max (Fx.sh c.d (-8)) 1 := by omega
  refine ⟨Int.ediv_nonneg (by decide) (by omega), ?_⟩
  exact Int.ediv_le_self _ (by decide)
def wts (l : List Cn) : Int := (l.map wt).sum
theorem wts_bd : ∀ (l : List Cn), 0 ≤ wts l ∧ wts l ≤ 1099511627776 * l.length
  | [] => by unfold wts; simp
  | c :: l => by
    have h1 := wts_bd l
    have h2 := wt_bd c
    have e : wts (c :: l) = wt c + wts l := by unfold wts; simp
    rw [e, List.length_cons]
    omega
theorem wts_snoc (l : List Cn) (c : Cn) : wts (l ++ [c]) = wts l + wt c := by unfold wts; simp
def fs (l : List Cn) : Cn := l.getD 0 zCn
def cmS (f W acc : Int) (c : Cn) : Int := Fx.cl 4611686018427387904 (acc + scl (Fx.cl 4611686018427387904 (c.o - f)) (wt c) W)
def cmF (f W : Int) (acc : Int) (l : List Cn) : Int := l.foldl (cmS f W) acc
theorem cmF_snoc (f W acc : Int) (l : List Cn) (c : Cn) : cmF f W acc (l ++ [c]) = cmS f W (cmF f W acc l) c := by unfold cmF; rw [List.foldl_append]; rfl
def cmO (l : List Cn) : Int := if l = [] then 0 else cmF (fs l).o (wts (l.take 16)) (fs l).o ((l.take 16).drop 1)
def cmJ (l : List Cn) : Int := if l = [] then 0 else max (fs l).j (sj (l.take 16) 0)
/-- the first place at which p holds -/
def idxP (p : Cn → Bool) : List Cn → Int
  | [] => -1
  | c :: l => if p c = true then 0 else if idxP p l < 0 then -1 else idxP p l + 1
theorem idxP_bd (p : Cn → Bool) : ∀ l : List Cn, -1 ≤ idxP p l ∧ idxP p l < l.length
  | [] => by unfold idxP; simp
  | c :: l => by
    have ih := idxP_bd p l
    unfold idxP
    rw [List.length_cons]
    (repeat' split) <;> omega
theorem idxP_hit (p : Cn → Bool) : ∀ (l : List Cn) (k : Nat) (c : Cn), l[k]? = some c → p c = true → (∀ (i : Nat) x, i < k → l[i]? = some x → p x = false) → idxP p l = k
  | [], k, c, h, _, _ => by simp at h
  | x :: l, 0, c, h, hp, _ => by
    simp at h
    subst h
    unfold idxP
    rw [if_pos hp]; rfl
  | x :: l, k + 1, c, h, hp, ha => by
    have hx := ha 0 x (by omega) rfl
    have ih := idxP_hit p l k c (by simpa using h) hp (fun i y hi hy => ha (i + 1) y (by omega) (by simpa using hy))
    unfold idxP
    rw [if_neg (by rw [hx]; simp), if_neg (by omega), ih]
    omega
theorem idxP_miss (p : Cn → Bool) : ∀ (l : List Cn), (∀ (i : Nat) x, l[i]? = some x → p x = false) → idxP p l = -1
  | [], _ => rfl
  | x :: l, ha => by
    have hx := ha 0 x rfl
    have ih := idxP_miss p l (fun i y hy => ha (i + 1) y (by simpa using hy))
    unfold idxP
    rw [if_neg (by rw [hx]; simp), if_pos (by omega)]
def isPf (c : Cn) : Bool := c.pf
def isId (was : Int) (c : Cn) : Bool := decide (c.id = was)
/-- where the best one stands -/
def bsI (l : List Cn) (was : Int) : Int :=
  if 0 ≤ idxP isPf l then idxP isPf l else if 0 ≤ idxP (isId was) l ∧ (l.getD (idxP (isId was) l).toNat zCn).s = (fs l).s then idxP (isId was) l else 0
theorem bsI_bd {l : List Cn} (was : Int) (h : 0 < l.length) : 0 ≤ bsI l was ∧ bsI l was < l.length := by
  have h1 := idxP_bd isPf l
  have h2 := idxP_bd (isId was) l
  unfold bsI
  (repeat' split) <;> omega
/-- what mitigation comes to: whom, offset, jitter, whether anybody, whether a pulse -/
structure Rs4 where
  p : Int
  o : Int
  j : Int
  ok : Bool
  pu : Bool
def alo (c : Cn) (pu : Bool) : Rs4 := ⟨c.id, c.o, c.j, true, pu⟩
def ahd (l : List Cn) (i : Nat) : List Cn := l.getD i zCn :: l.eraseIdx i
def mtg (P R : List Cn) (was : Int) : Rs4 :=
  if R = [] then ⟨0, 0, 0, false, false⟩
  else
    let i := (bsI R was).toNat
    let n := R.getD i zCn
    if P ≠ [] ∧ -1073741824 ≤ n.o ∧ n.o ≤ 1073741824 then alo (fs P) true
    else if n.pf = true then alo n false
    else ⟨n.id, cmO (ahd R i), cmJ (ahd R i), true, false⟩
def mit (l : List Cn) (was : Int) : Rs4 := mtg ((clu l).filter fun c => c.pu) ((clu l).filter fun c => !c.pu) was
end Go.Proofs.Ytdlipponajilbaa
