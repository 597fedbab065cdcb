/- Fields that the call has made: a row of two cells each; append to it. What Decode's loop reads: in lists. -/
import Derived.Test.YtdobghhjlfffpaaYC
import Derived.Test.YtdobghhjlfffpaaWJ
namespace Go.Proofs.Ytdobghhjlfffpaa
open Go.RowKit
def XU (xs : List Xt) : List Value := xs.flatMap (fun x => [.int .i64 x.ty, x.dv])
theorem XU_len (xs : List Xt) : (XU xs).length = xs.length * 2 := by
  unfold XU
  induction xs with
  | nil => rfl
  | cons x r ih => rw [List.flatMap_cons, List.length_append, ih, List.length_cons]; simp; omega
theorem XU_app (xs : List Xt) (x : Xt) : XU (xs ++ [x]) = XU xs ++ [.int .i64 x.ty, x.dv] := by unfold XU; simp
theorem XU_get (xs : List Xt) (i : Nat) (hi : i < xs.length) : (XU xs)[2 * i]? = some (.int .i64 xs[i].ty) ∧ (XU xs)[2 * i + 1]? = some xs[i].dv := by
  unfold XU
  induction xs generalizing i with
  | nil => exact absurd hi (by simp)
  | cons x r ih =>
    cases i with
    | zero => exact ⟨rfl, rfl⟩
    | succ i =>
      have := ih i (by simpa using hi)
      rw [List.flatMap_cons]
      exact this
/-- fields that the call has made, from block B on -/
structure OX (w : World) (B : Nat) (v : Value) (xs : List Xt) : Prop where
  row : w.ownsRow B 49 2 v xs.length (XU xs)
  dat : ∀ x ∈ xs, Own w B x.dv x.dat
theorem OX.nil (w : World) (B : Nat) : OX w B (.slice none 0 0) [] := ⟨World.ownsRow_nil _ _ _ _, fun x hx => by cases hx⟩
theorem OX.mono {w : World} {B B' : Nat} {v : Value} {xs : List Xt} (h : OX w B v xs) (hb : B' ≤ B) : OX w B' v xs := by
  refine ⟨⟨h.row.1, ?_⟩, fun x hx => (h.dat x hx).mono hb⟩
  rcases h.row.2 with r | ⟨g, cap, cur, a1, a2, r⟩
  · exact .inl r
  · exact .inr ⟨g, cap, cur, a1, by omega, r⟩
theorem OX.mod {w w' : World} {B q : Nat} {v : Value} {xs : List Xt} (h : OX w B v xs) (hg : w.grownBy w' (some q)) (hq : q < B) : OX w' B v xs :=
  ⟨h.row.kept hg (.inr fun e => by have := (h.row.lt q e).1; omega), fun x hx => (h.dat x hx).mod hg hq⟩
theorem OX.alloc {w : World} {B : Nat} {v : Value} {xs : List Xt} (h : OX w B v xs) (o : Obj) : OX (w.alloc o) B v xs :=
  ⟨h.row.alloc o, fun x hx => World.ownsRow.alloc (h.dat x hx) o⟩
theorem OX.drew {w : World} {B : Nat} {v : Value} {xs : List Xt} (h : OX w B v xs) : OX w.drew B v xs := ⟨h.row, h.dat⟩
theorem OX.low {w : World} {B g j : Nat} {v x : Value} {xs : List Xt} (h : OX w B v xs) (hg : g < B) : OX (w.setCell ⟨g, j, none⟩ x) B v xs :=
  ⟨ownsRow_setCell_below h.row hg x, fun y hy => (h.dat y hy).low hg⟩
theorem OX.below {w w' : World} {B C : Nat} {v : Value} {xs : List Xt} (h : OX w B v xs) (hb : Below C w w') (hC : w.heap.size ≤ C) : OX w' B v xs :=
  ⟨h.row.kept (row := none) ⟨hb.os, hb.tape, hb.output, hb.size, fun k hk _ => hb.block k (by omega)⟩ (by cases hv : v.ownBlock with
    | none => exact .inl rfl
    | some k => exact .inr (fun e => by cases e)), fun x hx => (h.dat x hx).below hb hC⟩
/-- a row of bytes lies elsewhere than a row of fields -/
theorem apart {w : World} {B B' : Nat} {v u : Value} {n : Nat} {xs : List Value} {bs : List Int} (h : w.ownsRow B 49 2 v n xs) (k : Own w B' u bs) : u.ownBlock = none ∨ u.ownBlock ≠ v.ownBlock := by
  rcases k.2 with ⟨k1, _⟩ | ⟨g, cap, cur, k1, _, k3, _⟩
  · rw [k1]; exact .inl rfl
  · right
    rcases h.2 with ⟨h1, _⟩ | ⟨g', cap', cur', h1, _, h3, _⟩
    · rw [k1, h1]; simp [Value.ownBlock]
    · rw [k1, h1]
      intro e
      simp only [Value.ownBlock, Option.some.injEq] at e
      subst e
      rw [k3] at h3
      simp at h3
theorem OX.kept {w w' : World} {B : Nat} {v v' : Value} {xs : List Xt} {x : Xt} (h : OX w B v xs) (hr : w'.ownsRow B 49 2 v' (xs.length + 1) (XU xs ++ [.int .i64 x.ty, x.dv])) (hg : w.grownBy w' v.ownBlock) (hx : Own w B x.dv x.dat) : OX w' B v' (xs ++ [x]) := by
  refine ⟨by rw [List.length_append, XU_app]; exact hr, fun y hy => ?_⟩
  rcases List.mem_append.1 hy with hy | hy
  · exact World.ownsRow.kept (h.dat y hy) hg (apart h.row (h.dat y hy))
  · rw [List.mem_singleton] at hy
    subst hy
    exact World.ownsRow.kept hx hg (apart h.row hx)
theorem infoX : (Try.prog.info? 49).map (fun i => (i.zero, i.size, i.bytes)) = some (some (.agg #[.int .i64 0, .slice none 0 0]), 2, 32) := by kernel_rfl
theorem infoX_parts : ∃ i, Try.prog.info? 49 = some i ∧ i.zero = some (.agg #[.int .i64 0, .slice none 0 0]) ∧ i.size = 2 ∧ i.bytes = 32 := by
  have h := infoX
  cases hi : Try.prog.info? 49 with
  | none => rw [hi] at h; cases h
  | some i =>
    rw [hi] at h
    simp at h
    exact ⟨i, rfl, h.1, h.2.1, h.2.2⟩
/-- one field is appended, as one step of a region that draws -/
theorem step_appx {w : World} {ops : Array Oper} {o : Oper} {a : Act} {K : Act → World → Prop} {Q : Exit → Act → World → Prop} {E : Prop} (hgd : o.guard = none) (s x : Operand)
    (ho : o.op = .call { callee := .builtin .append, args := #[s, x], argTypes := #[26, 26] })
    (B : Nat) (v : Value) (n : Nat) (xs : List Value) (hs : a.eval s = v) (hown : w.ownsRow B 49 2 v n xs) (g : Nat) (y0 y1 : Value) (hx : a.eval x = .slice (some ⟨g, 0, none⟩) 1 1) (hb : Bk g w #[y0, y1] 49) (o0 : y0.oneCell' = true) (o1 : y1.oneCell' = true) (hl : n ≤ 1000) (hbase : B ≤ w.heap.size)
    (h : ∀ v' w', w'.ownsRow B 49 2 v' (n + 1) (xs ++ [y0, y1]) → w.grownBy w' v.ownBlock → K (a.put o.dst v') w') :
    if Region.wanted o (yielded ops a.tmps) = true then Oper.wp Try.prog o a w K Q else E := by
  have hw : Region.wanted o (yielded ops a.tmps) = true := by simp [Region.wanted, hgd]
  rw [if_pos hw]
  obtain ⟨i, hi, hz, h2, h3⟩ := infoX_parts
  refine wp_append_own w s x 26 ho B 49 i _ 2 32 Try.underlying26 hi hz h2 h3 (by kernel_rfl) (by decide) v n xs hs hown ⟨g, 0, none⟩ 1 1 [y0, y1] hx rfl ?_ ?_ (by unfold maxLen; omega) (by omega) hbase (fun v' w' a1 a2 _ => h v' w' a1 a2)
  · intro j u hj
    rw [add_own, hb.cell j]
    have : (#[y0, y1] : Array Value)[j]? = [y0, y1][j]? := by simp
    rw [this]
    exact hj
  · intro u hu
    simp at hu
    rcases hu with rfl | rfl
    · exact o0
    · exact o1
/-- a field as bytes say it -/
def fd (bs : List Int) : Int × List Int := (fv bs 0 2, (bs.drop 4).take ((fv bs 2 2).toNat - 4))
/-- what the loop makes of bytes, k fields at the most: the error, the fields, what is left -/
def dL : Nat → List Int → Int × List (Int × List Int) × List Int
  | 0, bs => if bs.length ≤ 24 then (0, [], bs) else (54, [], bs)
  | k + 1, bs => if bs.length ≤ 24 then (0, [], bs) else if 28 ≤ fv bs 2 2 ∧ fv bs 2 2 % 4 = 0 ∧ fv bs 2 2 ≤ bs.length then ((dL k (bs.drop (fv bs 2 2).toNat)).1, fd bs :: (dL k (bs.drop (fv bs 2 2).toNat)).2.1, (dL k (bs.drop (fv bs 2 2).toNat)).2.2) else (32, [], bs)
theorem dL_short (k : Nat) {bs : List Int} (h : bs.length ≤ 24) : dL k bs = (0, [], bs) := by cases k <;> (unfold dL; rw [if_pos h])
theorem dL_many {bs : List Int} (h : 24 < bs.length) : dL 0 bs = (54, [], bs) := by unfold dL; rw [if_neg (by omega)]
theorem dL_form (k : Nat) {bs : List Int} (h : 24 < bs.length) (hx : ¬ xG bs) : dL (k + 1) bs = (32, [], bs) := by
  have hx' : ¬ (28 ≤ fv bs 2 2 ∧ fv bs 2 2 % 4 = 0 ∧ fv bs 2 2 ≤ bs.length) := hx
  unfold dL; rw [if_neg (by omega), if_neg hx']
theorem dL_next (k : Nat) {bs : List Int} (h : 24 < bs.length) (hx : xG bs) : dL (k + 1) bs = ((dL k (bs.drop (fv bs 2 2).toNat)).1, fd bs :: (dL k (bs.drop (fv bs 2 2).toNat)).2.1, (dL k (bs.drop (fv bs 2 2).toNat)).2.2) := by
  have hx' : 28 ≤ fv bs 2 2 ∧ fv bs 2 2 % 4 = 0 ∧ fv bs 2 2 ≤ bs.length := hx
  rw [dL]; rw [if_neg (by omega), if_pos hx']
def prs (xs : List Xt) : List (Int × List Int) := xs.map (fun x => (x.ty, x.dat))
/-- how far the loop has come -/
def St (b1 : List Int) (er1 : Int) (xs : List Xt) (bs : List Int) (er : Int) : Prop :=
  (er1 ≠ 0 ∧ er = er1) ∨ (er1 = 0 ∧ er = 0 ∧ xs.length ≤ 4 ∧ dL 4 b1 = ((dL (4 - xs.length) bs).1, prs xs ++ (dL (4 - xs.length) bs).2.1, (dL (4 - xs.length) bs).2.2)) ∨ (er1 = 0 ∧ er ≠ 0 ∧ (dL 4 b1).1 = er)
theorem St.start (b1 : List Int) (er1 : Int) : St b1 er1 [] b1 er1 := by
  by_cases h : er1 = 0
  · exact .inr (.inl ⟨h, h, by simp, by simp [prs]⟩)
  · exact .inl ⟨h, rfl⟩
/-- a round: the question whether there is room, then a field -/
theorem St.step {b1 bs bs' : List Int} {er1 er' ty : Int} {xs : List Xt} {dat : List Int} {dv : Value} (h : St b1 er1 xs bs 0) (hlen : 24 < bs.length) (hx : XR bs (rk (decide ((xs.length : Int) < 4)) 0 54) ty dat bs' er') :
    St b1 er1 (xs ++ [⟨ty, dv, dat⟩]) bs' er' ∧ (er' = 0 → bs'.length < bs.length) := by
  obtain ⟨x1, x2, x3⟩ := hx
  rcases h with ⟨h1, h2⟩ | ⟨h1, _, h3, h4⟩ | ⟨_, h2, _⟩
  · exact absurd h2.symm h1
  · by_cases hr : xs.length < 4
    · have e0 : rk (decide ((xs.length : Int) < 4)) 0 54 = 0 := by rw [rk_0, if_pos (decide_eq_true (by omega))]
      rw [e0] at x1 x2 x3
      obtain ⟨m, hm⟩ : ∃ m, 4 - xs.length = m + 1 := ⟨3 - xs.length, by omega⟩
      rw [hm] at h4
      by_cases hg : xG bs
      · obtain ⟨y1, y2, y3, y4⟩ := x3 rfl (by omega) hg
        rw [dL_next m hlen hg] at h4
        refine ⟨.inr (.inl ⟨h1, y1, by simp; omega, ?_⟩), fun _ => ?_⟩
        · have hm' : 4 - (xs ++ [(⟨ty, dv, dat⟩ : Xt)]).length = m := by simp; omega
          rw [hm', y4, h4]
          unfold prs fd
          simp [y2, y3]
        · rw [y4, List.length_drop]
          have := hg.1
          omega
      · have y := x2 rfl (by omega) hg
        rw [dL_form m hlen hg] at h4
        rw [y]
        exact ⟨.inr (.inr ⟨h1, by decide, by rw [h4]⟩), fun e => absurd e (by decide)⟩
    · have e0 : rk (decide ((xs.length : Int) < 4)) 0 54 = 54 := by rw [rk_0, if_neg (by simp; omega)]
      rw [e0] at x1
      have y := x1 (by decide)
      have hm : 4 - xs.length = 0 := by omega
      rw [hm, dL_many hlen] at h4
      rw [y]
      exact ⟨.inr (.inr ⟨h1, by decide, by rw [h4]⟩), fun e => absurd e (by decide)⟩
  · exact absurd rfl h2
/-- the loop's end -/
theorem St.stop {b1 bs : List Int} {er1 er : Int} {xs : List Xt} (h : St b1 er1 xs bs er) (he : er ≠ 0 ∨ bs.length ≤ 24) :
    (er1 ≠ 0 → er = er1) ∧ (er1 = 0 → (dL 4 b1).1 = er ∧ (er = 0 → prs xs = (dL 4 b1).2.1 ∧ bs = (dL 4 b1).2.2)) := by
  rcases h with ⟨h1, h2⟩ | ⟨h1, h2, h3, h4⟩ | ⟨h1, h2, h3⟩
  · exact ⟨fun _ => h2, fun x => absurd x h1⟩
  · have hl : bs.length ≤ 24 := he.resolve_left (fun x => x h2)
    rw [dL_short _ hl] at h4
    refine ⟨fun x => absurd h1 x, fun _ => ⟨by rw [h4, h2], fun _ => ?_⟩⟩
    rw [h4]
    simp
  · exact ⟨fun x => absurd h1 x, fun _ => ⟨h3, fun x => absurd x h2⟩⟩
end Go.Proofs.Ytdobghhjlfffpaa
