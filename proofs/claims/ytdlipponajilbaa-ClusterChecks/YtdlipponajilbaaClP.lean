/- Two rows merged, stably; a row sorted so; rotations of a row. Pure. -/
import Derived.WalkKit
import Derived.Sort.Statements
import Derived.Sort.Lot0
import Derived.Sort.LotA
import Derived.Sort.WalkA
namespace Go.Proofs.Ytdlipponajilbaa.St
open Go Go.Sort
set_option linter.unusedVariables false
variable {α : Type}
/-- merged: of the first ones the right one only where it is less -/
def mgN (lt : α → α → Bool) : Nat → List α → List α → List α
  | 0, U, V => U ++ V
  | _ + 1, [], V => V
  | _ + 1, U, [] => U
  | n + 1, u :: U, v :: V => if lt v u = true then v :: mgN lt n (u :: U) V else u :: mgN lt n U (v :: V)
def mg (lt : α → α → Bool) (U V : List α) : List α := mgN lt (U.length + V.length) U V
theorem mgN_nilL (lt : α → α → Bool) (n : Nat) (V : List α) : mgN lt n [] V = V := by cases n <;> cases V <;> simp [mgN]
theorem mgN_nilR (lt : α → α → Bool) (n : Nat) (U : List α) : mgN lt n U [] = U := by cases n <;> cases U <;> simp [mgN]
theorem mg_nilL (lt : α → α → Bool) (V : List α) : mg lt [] V = V := mgN_nilL lt _ V
theorem mg_nilR (lt : α → α → Bool) (U : List α) : mg lt U [] = U := mgN_nilR lt _ U
theorem mg_cons (lt : α → α → Bool) (u v : α) (U V : List α) : mg lt (u :: U) (v :: V) = if lt v u = true then v :: mg lt (u :: U) V else u :: mg lt U (v :: V) := by
  unfold mg
  have e : (u :: U).length + (v :: V).length = (U.length + 1 + V.length) + 1 := by simp only [List.length_cons]; omega
  rw [e]
  show (if lt v u = true then v :: mgN lt _ (u :: U) V else u :: mgN lt _ U (v :: V)) = _
  have e1 : (u :: U).length + V.length = U.length + 1 + V.length := by simp only [List.length_cons]
  have e2 : U.length + (v :: V).length = U.length + 1 + V.length := by simp only [List.length_cons]; omega
  rw [e1, e2]
theorem mg_lt {lt : α → α → Bool} {u v : α} {U V : List α} (h : lt v u = true) : mg lt (u :: U) (v :: V) = v :: mg lt (u :: U) V := by rw [mg_cons, if_pos h]
theorem mg_ge {lt : α → α → Bool} {u v : α} {U V : List α} (h : lt v u = false) : mg lt (u :: U) (v :: V) = u :: mg lt U (v :: V) := by rw [mg_cons, h, if_neg (by simp)]
theorem mg_len (lt : α → α → Bool) : ∀ (U V : List α), (mg lt U V).length = U.length + V.length := by
  intro U
  induction U with
  | nil => intro V; rw [mg_nilL]; simp
  | cons u U ihU =>
    intro V
    induction V with
    | nil => rw [mg_nilR]; simp
    | cons v V ihV =>
      cases h : lt v u with
      | true => rw [mg_lt h, List.length_cons, ihV]; simp only [List.length_cons]; omega
      | false => rw [mg_ge h, List.length_cons, ihU]; simp only [List.length_cons]; omega
theorem mg_perm (lt : α → α → Bool) : ∀ (U V : List α), (mg lt U V).Perm (U ++ V) := by
  intro U
  induction U with
  | nil => intro V; rw [mg_nilL]; exact List.Perm.refl _
  | cons u U ihU =>
    intro V
    induction V with
    | nil => rw [mg_nilR, List.append_nil]
    | cons v V ihV =>
      cases h : lt v u with
      | true => rw [mg_lt h]; exact (ihV.cons v).trans (List.perm_middle.symm)
      | false => rw [mg_ge h]; exact (ihU (v :: V)).cons u
/-- parted where the parts are apart -/
theorem mg_split {lt : α → α → Bool} : ∀ {U1 U2 V1 V2 : List α}, (∀ u ∈ U1, ∀ v ∈ V2, lt v u = false) → (∀ v ∈ V1, ∀ u ∈ U2, lt v u = true) → mg lt (U1 ++ U2) (V1 ++ V2) = mg lt U1 V1 ++ mg lt U2 V2 := by
  intro U1
  induction U1 with
  | nil =>
    intro U2 V1 V2 h1 h2
    rw [mg_nilL, List.nil_append]
    induction V1 with
    | nil => rfl
    | cons v V1 ih =>
      cases U2 with
      | nil => rw [mg_nilL, mg_nilL]
      | cons u U2 =>
        rw [List.cons_append, mg_lt (h2 v (List.mem_cons_self ..) u (List.mem_cons_self ..)), ih (fun v hv => h2 v (List.mem_cons_of_mem _ hv)), List.cons_append]
  | cons u U1 ihU =>
    intro U2 V1 V2 h1 h2
    induction V1 with
    | nil =>
      rw [mg_nilR, List.nil_append]
      cases V2 with
      | nil => rw [mg_nilR, mg_nilR]
      | cons v V2 =>
        have e := ihU (U2 := U2) (V1 := []) (V2 := v :: V2) (fun u hu => h1 u (List.mem_cons_of_mem _ hu)) (fun v hv => by cases hv)
        rw [List.nil_append, mg_nilR] at e
        rw [List.cons_append, mg_ge (h1 u (List.mem_cons_self ..) v (List.mem_cons_self ..)), e, List.cons_append]
    | cons v V1 ihV =>
      rw [List.cons_append, List.cons_append]
      cases h : lt v u with
      | true =>
        have e := ihV (fun v hv => h2 v (List.mem_cons_of_mem _ hv))
        rw [List.cons_append] at e
        rw [mg_lt h, mg_lt h, e, List.cons_append]
      | false =>
        have e := ihU (U2 := U2) (V1 := v :: V1) (V2 := V2) (fun u hu => h1 u (List.mem_cons_of_mem _ hu)) h2
        rw [List.cons_append] at e
        rw [mg_ge h, mg_ge h, e, List.cons_append]
theorem mg_assoc {lt : α → α → Bool} (hS : SWO lt) : ∀ (A B C : List α), mg lt (mg lt A B) C = mg lt A (mg lt B C) := by
  intro A
  induction A with
  | nil => intro B C; rw [mg_nilL, mg_nilL]
  | cons a A ihA =>
    intro B
    induction B with
    | nil => intro C; rw [mg_nilR, mg_nilL]
    | cons b B ihB =>
      intro C
      induction C with
      | nil => rw [mg_nilR, mg_nilR]
      | cons c C ihC =>
        cases hba : lt b a with
        | true =>
          rw [mg_lt hba]
          cases hcb : lt c b with
          | true =>
            have hca := hS.trans c b a hcb hba
            rw [mg_lt hcb, mg_lt hcb, mg_lt hca]
            rw [mg_lt hba] at ihC
            rw [ihC]
          | false =>
            rw [mg_ge hcb, mg_ge hcb, mg_lt hba, ihB (c :: C)]
        | false =>
          rw [mg_ge hba]
          cases hcb : lt c b with
          | true =>
            rw [mg_lt hcb]
            cases hca : lt c a with
            | true =>
              rw [mg_lt hca, mg_lt hca]
              rw [mg_ge hba] at ihC
              rw [ihC]
            | false =>
              rw [mg_ge hca, mg_ge hca, ihA (b :: B) (c :: C), mg_lt hcb]
          | false =>
            have hca := hS.ntrans c b a hcb hba
            rw [mg_ge hcb, mg_ge hba, mg_ge hca, ihA (b :: B) (c :: C), mg_ge hcb]
/-- sorted, stably -/
def st (lt : α → α → Bool) (l : List α) : List α := l.foldl (fun acc x => mg lt acc [x]) []
theorem st_nil (lt : α → α → Bool) : st lt [] = [] := rfl
theorem st_snoc (lt : α → α → Bool) (l : List α) (x : α) : st lt (l ++ [x]) = mg lt (st lt l) [x] := by unfold st; rw [List.foldl_append]; rfl
theorem st_one (lt : α → α → Bool) (x : α) : st lt [x] = [x] := mg_nilL lt [x]
theorem rev_ind {C : List α → Prop} (l : List α) (h0 : C []) (h1 : ∀ l x, C l → C (l ++ [x])) : C l := by
  have : ∀ m : List α, C m.reverse := by
    intro m
    induction m with
    | nil => exact h0
    | cons x m ih => rw [List.reverse_cons]; exact h1 _ _ ih
  have h := this l.reverse
  rwa [List.reverse_reverse] at h
theorem st_append {lt : α → α → Bool} (hS : SWO lt) (A B : List α) : st lt (A ++ B) = mg lt (st lt A) (st lt B) := by
  refine rev_ind (C := fun B => st lt (A ++ B) = mg lt (st lt A) (st lt B)) B ?_ ?_
  · rw [List.append_nil, st_nil, mg_nilR]
  · intro B x ih
    rw [← List.append_assoc, st_snoc, ih, mg_assoc hS, st_snoc]
theorem st_perm (lt : α → α → Bool) (l : List α) : (st lt l).Perm l := by
  refine rev_ind (C := fun l => (st lt l).Perm l) l (List.Perm.refl _) ?_
  intro l x ih
  rw [st_snoc]
  exact (mg_perm lt _ _).trans (ih.append_right _)
theorem st_len (lt : α → α → Bool) (l : List α) : (st lt l).length = l.length := (st_perm lt l).length_eq
/-- sorted: no later one is less -/
def So (lt : α → α → Bool) (l : List α) : Prop := l.Pairwise fun a b => lt b a = false
theorem mg_so {lt : α → α → Bool} (hS : SWO lt) : ∀ {U V : List α}, So lt U → So lt V → So lt (mg lt U V) := by
  intro U
  induction U with
  | nil => intro V _ h; rw [mg_nilL]; exact h
  | cons u U ihU =>
    intro V hU hV
    induction V with
    | nil => rw [mg_nilR]; exact hU
    | cons v V ihV =>
      have hU' := List.pairwise_cons.1 hU
      have hV' := List.pairwise_cons.1 hV
      cases h : lt v u with
      | true =>
        rw [mg_lt h]
        refine List.pairwise_cons.2 ⟨fun x hx => ?_, ihV hV'.2⟩
        have hx' := (mg_perm lt _ _).mem_iff.1 hx
        rcases List.mem_append.1 hx' with h1 | h1
        · have huv : lt u v = false := by
            cases hh : lt u v with
            | false => rfl
            | true => have := hS.trans u v u hh h; rw [hS.irrefl] at this; cases this
          rcases List.mem_cons.1 h1 with rfl | h2
          · exact huv
          · exact hS.ntrans x u v (hU'.1 x h2) huv
        · exact hV'.1 x h1
      | false =>
        rw [mg_ge h]
        refine List.pairwise_cons.2 ⟨fun x hx => ?_, ihU hU'.2 hV⟩
        have hx' := (mg_perm lt _ _).mem_iff.1 hx
        rcases List.mem_append.1 hx' with h1 | h1
        · exact hU'.1 x h1
        · rcases List.mem_cons.1 h1 with rfl | h2
          · exact h
          · exact hS.ntrans x v u (hV'.1 x h2) h
theorem st_so {lt : α → α → Bool} (hS : SWO lt) (l : List α) : So lt (st lt l) := by
  refine rev_ind (C := fun l => So lt (st lt l)) l List.Pairwise.nil ?_
  intro l x ih
  rw [st_snoc]
  exact mg_so hS ih (List.pairwise_singleton ..)
/-- one is put in, from behind -/
theorem mg_put {lt : α → α → Bool} {S1 S2 : List α} {x : α} (h1 : ∀ s ∈ S1, lt x s = false) (h2 : ∀ s ∈ S2, lt x s = true) : mg lt (S1 ++ S2) [x] = S1 ++ x :: S2 := by
  have e1 : mg lt (S1 ++ S2) ([x] ++ []) = mg lt S1 [x] ++ mg lt S2 [] := mg_split (fun u _ v hv => by cases hv) (fun v hv u hu => by rw [List.mem_singleton.1 hv]; exact h2 u hu)
  have e2 : mg lt (S1 ++ []) ([] ++ [x]) = mg lt S1 [] ++ mg lt [] [x] := mg_split (fun u hu v hv => by rw [List.mem_singleton.1 hv]; exact h1 u hu) (fun v hv => by cases hv)
  rw [List.append_nil] at e1
  rw [List.append_nil, List.nil_append, mg_nilR, mg_nilL] at e2
  rw [e1, e2, mg_nilR, List.append_assoc]; rfl
/-- one is put in, from the front -/
theorem mg_push {lt : α → α → Bool} {V1 V2 : List α} {x : α} (h1 : ∀ v ∈ V1, lt v x = true) (h2 : ∀ v ∈ V2, lt v x = false) : mg lt [x] (V1 ++ V2) = V1 ++ x :: V2 := by
  have e1 : mg lt ([] ++ [x]) (V1 ++ V2) = mg lt [] V1 ++ mg lt [x] V2 := mg_split (fun u hu => by cases hu) (fun v hv u hu => by rw [List.mem_singleton.1 hu]; exact h1 v hv)
  have e2 : mg lt ([x] ++ []) ([] ++ V2) = mg lt [x] [] ++ mg lt [] V2 := mg_split (fun u hu v hv => by rw [List.mem_singleton.1 hu]; exact h2 v hv) (fun v hv => by cases hv)
  rw [List.nil_append, mg_nilL] at e1
  rw [List.append_nil, List.nil_append, mg_nilR, mg_nilL] at e2
  rw [e1, e2]; rfl
theorem st_self {lt : α → α → Bool} {l : List α} (hS : SWO lt) (h : So lt l) : st lt l = l := by
  refine rev_ind (C := fun l => So lt l → st lt l = l) l (fun _ => rfl) ?_ h
  intro l x ih h
  have h' := List.pairwise_append.1 h
  have e := mg_put (lt := lt) (S1 := l) (S2 := []) (x := x) (fun s hs => h'.2.2 s hs x (List.mem_singleton.2 rfl)) (fun s hs => by cases hs)
  rw [List.append_nil] at e
  rw [st_snoc, ih h'.1]
  exact e
end Go.Proofs.Ytdlipponajilbaa.St
