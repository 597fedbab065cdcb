/- assoc: both tables in one world, apart. -/
import Derived.Test.YtnjdmkgkpdebdaaOYb
import Derived.Test.YtnjdmkgkpdebdaaOT12
import Derived.Test.YtnjdmkgkpdebdaaOM
import Derived.Test.YtnjdmkgkpdebdaaKVa
import Derived.Test.YtnjdmkgkpdebdaaGW
import Derived.Deep.RegionHeld3
namespace Go.Proofs.Ytnjdmkgkpdebdaa
open Go Go.RowKit Go.Sort
set_option linter.unusedVariables false
/-- a block of a table's -/
def Own4 (w : World) (p : Nat) : Prop := ∃ cs ty, w.heap[p]? = some (.cells cs ty (0, 0)) ∧ (ty = 74 ∨ ty = 77 ∨ ty = 80 ∨ ty = 83)
/-- what both tables' calls write: their blocks alone, all from B on -/
structure Gf (w w' : World) (B : Nat) : Prop where
  be : Below B w w'
  kp : ∀ p, p < w.heap.size → ¬ Own4 w p → w'.heap[p]? = w.heap[p]?
theorem Gf.trans {a b c : World} {B : Nat} (h : Gf a b B) (k : Gf b c B) : Gf a c B := by
  refine ⟨h.be.trans k.be, fun p hp hn => ?_⟩
  have e := h.kp p hp hn
  rw [k.kp p (Nat.lt_of_lt_of_le hp h.be.size) (fun ⟨cs, ty, h1, h2⟩ => hn ⟨cs, ty, by rw [← e]; exact h1, h2⟩), e]
theorem Gf.of {w w' : World} {B : Nat} (h : Below w.heap.size w w') (hB : B ≤ w.heap.size) : Gf w w' B := ⟨h.mono hB, fun p hp _ => h.block p hp⟩
theorem Gf.bk {w w' : World} {B p : Nat} {cs : Array Value} {ty : TypeId} (h : Gf w w' B) (hb : Bk p w cs ty) (ht : ty ≠ 74 ∧ ty ≠ 77 ∧ ty ≠ 80 ∧ ty ≠ 83) : Bk p w' cs ty := by
  refine hb.kept (h.kp p hb.lt ?_)
  rintro ⟨cs', ty', h1, h2⟩
  have h3 : w.heap[p]? = some (.cells cs ty (0, 0)) := hb
  rw [h3] at h1
  injection h1 with h1
  injection h1 with _ h1
  subst h1
  obtain ⟨a1, a2, a3, a4⟩ := ht
  rcases h2 with h2 | h2 | h2 | h2
  · exact a1 h2
  · exact a2 h2
  · exact a3 h2
  · exact a4 h2
theorem OR.keep {w w' : World} {B : Nat} {e : TypeId} {k : Nat} {v : Value} {rows : List (List Value)} (h : OR w B e k v rows) (hk : ∀ b, v.ownBlock = some b → w'.heap[b]? = w.heap[b]?) : OR w' B e k v rows := by
  refine ⟨⟨h.row.1, ?_⟩, h.len⟩
  rcases h.row.2 with h1 | ⟨g, cap, cur, h1, h2, h3, h4⟩
  · exact .inl h1
  · exact .inr ⟨g, cap, cur, h1, h2, by rw [hk g (by rw [h1]; rfl)]; exact h3, h4⟩
theorem OR.tys {w : World} {B : Nat} {e : TypeId} {k : Nat} {v : Value} {rows : List (List Value)} (h : OR w B e k v rows) : ∀ b, v.ownBlock = some b → B ≤ b ∧ ∃ cur, Bk b w cur e := by
  intro b hb
  rcases h.row.2 with ⟨h1, _⟩ | ⟨g, cap, cur, h1, h2, h3, _⟩
  · rw [h1] at hb; cases hb
  · rw [h1] at hb
    simp only [Value.ownBlock] at hb
    injection hb with hb
    subst hb
    exact ⟨h2, cur, h3⟩
theorem bk_ne {w : World} {p q : Nat} {cs cs' : Array Value} {ty ty' : TypeId} (h : Bk p w cs ty) (k : Bk q w cs' ty') (hne : ty ≠ ty') : p ≠ q := by
  rintro rfl
  have h1 : w.heap[p]? = some (.cells cs ty (0, 0)) := h
  have h2 : w.heap[p]? = some (.cells cs' ty' (0, 0)) := k
  rw [h1] at h2
  injection h2 with h2
  injection h2 with _ h2
  exact hne h2
/-- both tables -/
structure Bt (w : World) (q d B : Nat) (T : List (Option Mb)) (l : List Mb) : Prop where
  tb : Tb w q T
  rt : Rt w d B l
  hB : B ≤ w.heap.size
  hq : B ≤ q
  hd : B ≤ d
  hm : ∀ (i : Nat) m, T[i]? = some (some m) → B ≤ m.b
theorem Bt.below {w w' : World} {q d B : Nat} {T : List (Option Mb)} {l : List Mb} (h : Bt w q d B T l) (hb : Below w.heap.size w w') : Bt w' q d B T l :=
  ⟨h.tb.below hb, h.rt.below hb, Nat.le_trans h.hB hb.size, h.hq, h.hd, h.hm⟩
/-- a call of the program's -/
theorem Bt.fm {w w' : World} {q d B : Nat} {T T' : List (Option Mb)} {l : List Mb} (h : Bt w q d B T l) (hf : Fm w w' q T) (ht : Tb w' q T') (hm : ∀ (i : Nat) m, T'[i]? = some (some m) → B ≤ m.b) : Bt w' q d B T' l ∧ Gf w w' B := by
  obtain ⟨v, r1, r2, r3⟩ := h.rt.ex
  have kd : ∀ p cs ty, Bk p w cs ty → ty ≠ 74 → ty ≠ 77 → w'.heap[p]? = w.heap[p]? := fun p cs ty hp n1 n2 => by
    refine hf.block p hp.lt (bk_ne hp h.tb.tab n1) (fun i m hm e => ?_)
    subst e
    exact bk_ne hp (h.tb.mem i m hm).1 n2 rfl
  refine ⟨⟨ht, ⟨⟨v, r1.kept (kd d _ _ r1 (by decide) (by decide)), r2.keep (fun b hb => ?_), r3⟩, h.rt.len⟩, Nat.le_trans h.hB hf.size, h.hq, h.hd, hm⟩, ⟨⟨hf.os, hf.tape, hf.output, hf.size, fun k hk => ?_⟩, fun p hp hn => ?_⟩⟩
  · obtain ⟨_, cur, hc⟩ := r2.tys b hb
    exact kd b _ _ hc (by decide) (by decide)
  · have := h.hB
    exact hf.block k (by omega) (by have := h.hq; omega) (fun i m hm => by have := h.hm i m hm; omega)
  · refine hf.block p hp (fun e => ?_) (fun i m hm e => ?_)
    · subst e
      exact hn ⟨_, _, h.tb.tab, .inl rfl⟩
    · subst e
      exact hn ⟨_, _, (h.tb.mem i m hm).1, .inr (.inl rfl)⟩
/-- a call of the reference's -/
theorem Bt.rg {w w' : World} {q d B g : Nat} {T : List (Option Mb)} {l l' : List Mb} (h : Bt w q d B T l) (hg : w.grownBy w' (some g)) (hgd : g = d ∨ (B ≤ g ∧ ∃ cs, Bk g w cs 83)) (hr : Rt w' d B l') : Bt w' q d B T l' ∧ Gf w w' B := by
  obtain ⟨v, r1, r2, r3⟩ := h.rt.ex
  have hgB : B ≤ g := by rcases hgd with e | e; (rw [e]; exact h.hd); exact e.1
  have ne : ∀ p cs ty, Bk p w cs ty → ty ≠ 80 → ty ≠ 83 → w'.heap[p]? = w.heap[p]? := fun p cs ty hp n1 n2 => by
    refine hg.block p hp.lt (fun e => ?_)
    injection e with e
    subst e
    rcases hgd with e | ⟨_, cs', e⟩
    · subst e; exact bk_ne hp r1 n1 rfl
    · exact bk_ne hp e n2 rfl
  refine ⟨⟨⟨h.tb.tab.kept (ne q _ _ h.tb.tab (by decide) (by decide)), h.tb.len, fun i m hm => ?_, h.tb.inj⟩, hr, Nat.le_trans h.hB hg.size, h.hq, h.hd, h.hm⟩, ⟨⟨hg.os, hg.tape, hg.output, hg.size, fun k hk => ?_⟩, fun p hp hn => ?_⟩⟩
  · obtain ⟨k1, k2⟩ := h.tb.mem i m hm
    exact ⟨k1.kept (ne _ _ _ k1 (by decide) (by decide)), k2⟩
  · have := h.hB
    exact hg.block k (by omega) (fun e => by injection e with e; omega)
  · refine hg.block p hp (fun e => ?_)
    injection e with e
    subst e
    rcases hgd with e | ⟨_, cs', e⟩
    · subst e; exact hn ⟨_, _, r1, .inr (.inr (.inl rfl))⟩
    · exact hn ⟨_, _, e, .inr (.inr (.inr rfl))⟩
/-- kinds, and how often -/
structure Ok (T : List (Option Mb)) (K : Int) : Prop where
  kw : kWf T
  hp : ∀ (i : Nat) m, T[i]? = some (some m) → 0 ≤ m.hops ∧ m.hops ≤ K
theorem Ok.up {T : List (Option Mb)} {K K' : Int} (h : Ok T K) (hk : K ≤ K') : Ok T K' := ⟨h.kw, fun i m hm => by have := h.hp i m hm; omega⟩
theorem Ok.less {T T' : List (Option Mb)} {K : Int} (h : Ok T K) (hs : ∀ i, at0 T' i = at0 T i ∨ at0 T' i = none) : Ok T' K := by
  have k : ∀ (i : Nat) m, T'[i]? = some (some m) → T[i]? = some (some m) := fun i m hm => by
    rcases hs i with e | e
    · rw [at0_some.2 hm] at e; exact at0_some.1 e.symm
    · rw [at0_some.2 hm] at e; cases e
  exact ⟨fun i m hm => h.kw i m (k i m hm), fun i m hm => h.hp i m (k i m hm)⟩
theorem ad_mem2 {ms : List (Option Mb)} {a : As} {p now : Int} {b i : Nat} {m : Mb} (h : (adT ms a p now b)[i]? = some (some m)) : ms[i]? = some (some m) ∨ (m.b = b ∧ m.ac = a ∧ m.hops = 0) := by
  unfold adT at h
  split at h
  · rw [List.getElem?_set] at h
    split at h
    · split at h
      · injection h with h
        injection h with h
        subst h
        exact .inr ⟨rfl, rfl, rfl⟩
      · cases h
    · exact .inl h
  · exact .inl h
theorem Ok.ad {T : List (Option Mb)} {K : Int} (h : Ok T K) (hK : 0 ≤ K) {a : As} {p now : Int} {b : Nat} (hk : (Lit.int .i64 a.kind).wf = true) : Ok (adT T a p now b) K :=
  ⟨fun i m hm => by rcases ad_mem2 hm with h1 | ⟨_, h1, _⟩; (exact h.kw i m h1); (rw [h1]; exact hk), fun i m hm => by rcases ad_mem2 hm with h1 | ⟨_, _, h1⟩; (exact h.hp i m h1); (rw [h1]; omega)⟩
theorem fr_nonneg : ∀ (T : List (Option Mb)) (k : Nat), 0 ≤ frF T k
  | [], _ => by simp [frF]
  | none :: t, k => by simp only [frF]; omega
  | some m :: t, k => by simp only [frF]; exact fr_nonneg t (k + 1)
theorem ra_n {T : List (Option Mb)} (hl : T.length = 16) (h : Ids T 0) (a : As) (par : Int) : raN (rowsOf T) a par (frF T 0).toNat = adN T a par := by
  unfold raN adN
  rw [ra_ad hl h]
  split
  · exact Int.toNat_of_nonneg (fr_nonneg T 0)
  · rfl
theorem ra_lf {T : List (Option Mb)} (hl : T.length = 16) (h : Ids T 0) (a : As) (par : Int) (he : raE (rowsOf T) a par = 0) : Lf (rowsOf T) (frF T 0).toNat := by
  refine lf_fr hl h (fun hf => ?_)
  rw [ra_ad hl h] at he
  unfold adE at he
  rw [if_pos hf] at he
  split at he
  · exact absurd he (by decide)
  · split at he
    · exact absurd he (by decide)
    · exact absurd he (by decide)
end Go.Proofs.Ytnjdmkgkpdebdaa
/- assoc: each call on both tables: the same answer, the same table. -/
namespace Go.Proofs.Ytnjdmkgkpdebdaa
open Go Go.RowKit Go.Sort
set_option linter.unusedVariables false
def PE (q d B : Nat) (T T' : List (Option Mb)) (K : Int) (W w' : World) : Prop := Bt w' q d B T' (rowsOf T) ∧ Gf W w' B ∧ Ok T' (K + 1)
def RE (q d B : Nat) (T' : List (Option Mb)) (W w' : World) : Prop := Bt w' q d B T' (rowsOf T') ∧ Gf W w' B
theorem ids_ge : ∀ (T : List (Option Mb)) (k : Nat), Ids T k → ∀ n ∈ rowsOf T, (k : Int) + 1 ≤ n.id := fun T k hI n hn => by
  obtain ⟨i, hi⟩ := mem_rows.1 hn
  have := hI i n (at0_some.1 hi)
  omega
theorem rows_set (x : Mb) : ∀ (T : List (Option Mb)) (k i j : Nat) (m n : Mb), Ids T k → T[i]? = some (some m) → (rowsOf T)[j]? = some n → n.id = m.id → rowsOf (T.set i (some x)) = (rowsOf T).set j x
  | [], k, i, j, m, n, _, h, _, _ => by simp at h
  | y :: t, k, 0, j, m, n, hI, hi, hj, he => by
    simp at hi
    subst hi
    have e1 : rowsOf (some m :: t) = m :: rowsOf t := rfl
    rw [e1] at hj ⊢
    have hm : m.id = (k : Int) + 1 := by have := hI 0 m rfl; simpa using this
    cases j with
    | zero => rfl
    | succ j =>
      exfalso
      rw [List.getElem?_cons_succ] at hj
      have := ids_ge t (k + 1) hI.tail n (List.mem_of_getElem? hj)
      omega
  | none :: t, k, i + 1, j, m, n, hI, hi, hj, he => by
    have e1 : rowsOf (none :: t) = rowsOf t := rfl
    rw [e1] at hj ⊢
    rw [List.set_cons_succ]
    exact rows_set x t (k + 1) i j m n hI.tail (by simpa using hi) hj he
  | some z :: t, k, i + 1, j, m, n, hI, hi, hj, he => by
    have e1 : rowsOf (some z :: t) = z :: rowsOf t := rfl
    rw [e1] at hj ⊢
    rw [List.set_cons_succ]
    cases j with
    | zero =>
      exfalso
      simp at hj
      have h1 : z.id = (k : Int) + 1 := by have := hI 0 z rfl; simpa using this
      have h2 := hI (i + 1) m hi
      rw [hj, he] at h1
      omega
    | succ j =>
      rw [List.getElem?_cons_succ] at hj
      rw [List.set_cons_succ]
      show z :: rowsOf (t.set i (some x)) = _
      rw [rows_set x t (k + 1) i j m n hI.tail (by simpa using hi) hj he]
theorem pAdd (q d B : Nat) (T : List (Option Mb)) (a : As) (par now K : Int) (w : World) (h : Bt w q d B T (rowsOf T)) (ok : Ok T K) (hK : 0 ≤ K) (hn : -9223372036854775808 ≤ now) (hk : (Lit.int .i64 a.kind).wf = true) : Calls Try.prog 15 #[.pointer (some ⟨q, 0, none⟩), .agg (asL a).toArray, .int .i64 par, .int .i64 now] w fun e w' => ∃ b, e = .returned (.tuple #[.int .i64 (adN T a par), .int .i64 (adE T a par)]) ∧ Hid (PE q d B T (adT T a par now b) K w w') := by
  refine (add_any q T a par now w h.tb hn).mono ?_
  rintro e w' ⟨b, rfl, h1, h2, h3⟩
  have hB := h.hB
  have := h.fm (Fm.ofq h2) h1 (fun i m hm => by rcases ad_mem2 hm with k | ⟨k, _⟩; (exact h.hm i m k); omega)
  exact ⟨b, rfl, this.1, this.2, (ok.ad hK hk).up (by omega)⟩
theorem rAdd (q d B b : Nat) (T : List (Option Mb)) (a : As) (par now : Int) (w : World) (h : Bt w q d B (adT T a par now b) (rowsOf T)) (hl : T.length = 16) (hI : Ids T 0) (hn : -9223372036854775808 ≤ now) : Calls Try.prog 24 #[.pointer (some ⟨d, 0, none⟩), .agg (asL a).toArray, .int .i64 par, .int .i64 now] w fun e w' => e = .returned (.tuple #[.int .i64 (adN T a par), .int .i64 (adE T a par)]) ∧ Hid (RE q d B (adT T a par now b) w w') := by
  refine (radd_any d B (rowsOf T) a par now (frF T 0).toNat w h.rt h.hB hn (ra_lf hl hI a par)).mono ?_
  rintro e w' ⟨rfl, h1, h2⟩
  rw [ra_n hl hI, ra_ad hl hI]
  exact ⟨rfl, h.rg h2 (.inl rfl) (h1.rgrown (w' := w') (ra_rows hl hI a par now b))⟩
theorem pDrop (q d B : Nat) (T : List (Option Mb)) (id K : Int) (w : World) (h : Bt w q d B T (rowsOf T)) (ok : Ok T K) : Calls Try.prog 21 #[.pointer (some ⟨q, 0, none⟩), .int .i64 id] w fun e w' => ∃ T', e = .returned (.bool (atM T id).isSome) ∧ Hid (PE q d B T T' K w w' ∧ SpS T (fun i => (i : Int) + 1 = id) T') := by
  refine (drop_any (cnt T) q T id w h.tb (Nat.le_refl _)).mono ?_
  rintro e w' ⟨T', rfl, h1, h2, h3⟩
  have := h.fm (Fm.ofq h3.out) h2.out (fun i m hm => h.hm i m (at0_some.1 (h1.out.same i m (at0_some.2 hm))))
  exact ⟨T', rfl, ⟨this.1, this.2, (ok.less h1.out.sub).up (by omega)⟩, h1.out⟩
theorem sp_same {T T' : List (Option Mb)} {S : Nat → Prop} (h : SpS T S T') (hS : ∀ i, S i → at0 T i = none) : T' = T := by
  refine at0_ext h.len fun i => ?_
  rcases h.sub i with e | e
  · exact e
  · cases hm : at0 T i with
    | none => exact e
    | some m => exact (h.snd i m hm e (fun _ => False) (fun i m k1 k2 => by rw [hS i k2] at k1; cases k1) (fun _ _ _ _ _ ih => ih)).elim
theorem rDrop (q d B : Nat) (T T' : List (Option Mb)) (id : Int) (w : World) (h : Bt w q d B T' (rowsOf T)) (hl : T.length = 16) (hI : Ids T 0) (hs : SpS T (fun i => (i : Int) + 1 = id) T') : Calls Try.prog 25 #[.pointer (some ⟨d, 0, none⟩), .int .i64 id] w fun e w' => e = .returned (.bool (atM T id).isSome) ∧ Hid (RE q d B T' w w') := by
  refine (rDrop_any d B (rowsOf T) id w h.rt h.hB).mono ?_
  rintro e w' ⟨rfl, h1, h2⟩
  have eb : rdB (rowsOf T) id = (atM T id).isSome := by
    unfold rdB
    rw [id_atM hl hI]
    by_cases h0 : id = 0
    · subst h0; rw [atM_zero]; rfl
    · simp [h0]
  rw [eb] at h1 ⊢
  refine ⟨rfl, h.rg h2.out (.inl rfl) ?_⟩
  rcases h1.out with ⟨k1, k2⟩ | ⟨k1, xs, k2, k3⟩
  · have : T' = T := sp_same hs fun i hi => by
      rcases Nat.lt_or_ge i 16 with h16 | h16
      · rw [← hi, atM_at i h16] at k1
        cases hm : at0 T i with
        | none => rfl
        | some m => rw [hm] at k1; cases k1
      · unfold at0
        rw [List.getD_eq_getElem?_getD, List.getElem?_eq_none (by omega)]
        rfl
    rw [this]
    exact k2
  · obtain ⟨m, hm⟩ := Option.isSome_iff_exists.1 k1
    obtain ⟨i, hi, hid, _⟩ := atM_mem hm
    rw [← (rest_all hI hs k2.x (fun i hi => hi) (fun x hx => ⟨i, m, by rw [hx, hid], at0_some.2 hi, hid.symm⟩)).1]
    exact k3
theorem pHeard (q d B : Nat) (T : List (Option Mb)) (id now K : Int) (w : World) (h : Bt w q d B T (rowsOf T)) (ok : Ok T K) (hn : -9223372036854775808 ≤ now) : Calls Try.prog 26 #[.pointer (some ⟨q, 0, none⟩), .int .i64 id, .int .i64 now] w fun e w' => e = .returned (.bool (atM T id).isSome) ∧ Hid (PE q d B T (heT T id now) K w w') := by
  refine (heard_any q T id now w h.tb hn).mono ?_
  rintro e w' ⟨rfl, h1, h2⟩
  have k : ∀ (i : Nat) m, (heT T id now)[i]? = some (some m) → ∃ m0, T[i]? = some (some m0) ∧ m.b = m0.b ∧ m.ac = m0.ac ∧ m.hops = m0.hops := fun i m hm => by
    unfold heT at hm
    cases hx : atM T id with
    | none => rw [hx] at hm; exact ⟨m, hm, rfl, rfl, rfl⟩
    | some m1 =>
      rw [hx] at hm
      simp only at hm
      obtain ⟨j, hj, hj2, _⟩ := atM_mem hx
      have ej : (id - 1).toNat = j := by omega
      rw [ej, List.getElem?_set] at hm
      split at hm
      · rename_i e
        subst e
        split at hm
        · injection hm with hm
          injection hm with hm
          refine ⟨m1, hj, ?_⟩
          rw [← hm]
          unfold heM
          split <;> exact ⟨rfl, rfl, rfl⟩
        · cases hm
      · exact ⟨m, hm, rfl, rfl, rfl⟩
  have := h.fm h2 h1 (fun i m hm => by obtain ⟨m0, k1, k2, _⟩ := k i m hm; rw [k2]; exact h.hm i m0 k1)
  exact ⟨rfl, this.1, this.2, ⟨fun i m hm => by obtain ⟨m0, k1, _, k2, _⟩ := k i m hm; rw [k2]; exact ok.kw i m0 k1, fun i m hm => by obtain ⟨m0, k1, _, _, k2⟩ := k i m hm; have := ok.hp i m0 k1; omega⟩⟩
theorem rHeard (q d B : Nat) (T : List (Option Mb)) (id now : Int) (w : World) (h : Bt w q d B (heT T id now) (rowsOf T)) (hl : T.length = 16) (hI : Ids T 0) (hn : -9223372036854775808 ≤ now) : Calls Try.prog 27 #[.pointer (some ⟨d, 0, none⟩), .int .i64 id, .int .i64 now] w fun e w' => e = .returned (.bool (atM T id).isSome) ∧ Hid (RE q d B (heT T id now) w w') := by
  refine (rheard_any d B (rowsOf T) id now w h.rt hn).mono ?_
  rintro e w' ⟨rfl, h1⟩
  rw [id_atM hl hI] at h1 ⊢
  refine ⟨rfl, ?_⟩
  rcases h1.out with ⟨k1, k2, k3⟩ | ⟨i, m, g, cs, k1, k2, k3, k4, k5, k6, k7⟩
  · have e : heT T id now = T := by unfold heT; rw [k1]
    rw [e] at h ⊢
    exact ⟨h.below k3, Gf.of k3 h.hB⟩
  · refine h.rg k7 (.inr ⟨k5, cs, k6⟩) ?_
    obtain ⟨j, hj, hj2, _⟩ := atM_mem k3
    have ej : (id - 1).toNat = j := by omega
    have e : heT T id now = T.set j (some (heM m now)) := by unfold heT; rw [k3]; simp only; rw [ej]
    rw [e, rows_set (heM m now) T 0 j i m m hI hj k1 rfl]
    exact k4
theorem pHops (q d B : Nat) (T : List (Option Mb)) (id K : Int) (w : World) (h : Bt w q d B T (rowsOf T)) (ok : Ok T K) (hK0 : 0 ≤ K) (hK : K < 9223372036854775807) : Calls Try.prog 30 #[.pointer (some ⟨q, 0, none⟩), .int .i64 id] w fun e w' => e = .returned (.tuple #[.int .i64 (hoR T id), .bool (hoB T id)]) ∧ Hid (PE q d B T (hoT T id) K w w') := by
  refine (hops_any q T id w h.tb (fun m hm => by obtain ⟨j, hj, _⟩ := atM_mem hm; have := ok.hp j m hj; omega)).mono ?_
  rintro e w' ⟨rfl, h1, h2⟩
  have k : ∀ (i : Nat) m, (hoT T id)[i]? = some (some m) → ∃ m0, T[i]? = some (some m0) ∧ m.b = m0.b ∧ m.ac = m0.ac ∧ (m.hops = m0.hops ∨ m.hops = 1 ∨ m.hops = m0.hops + 1) := fun i m hm => by
    unfold hoT at hm
    cases hx : atM T id with
    | none => rw [hx] at hm; exact ⟨m, hm, rfl, rfl, .inl rfl⟩
    | some m1 =>
      rw [hx] at hm
      simp only at hm
      obtain ⟨j, hj, hj2, _⟩ := atM_mem hx
      have ej : (id - 1).toNat = j := by omega
      split at hm
      · rw [ej, List.getElem?_set] at hm
        split at hm
        · rename_i e
          subst e
          split at hm
          · injection hm with hm
            injection hm with hm
            refine ⟨m1, hj, ?_⟩
            rw [← hm]
            refine ⟨rfl, rfl, .inr ?_⟩
            show hoN m1 = 1 ∨ hoN m1 = _
            unfold hoN
            split
            · exact .inl rfl
            · exact .inr rfl
          · cases hm
        · exact ⟨m, hm, rfl, rfl, .inl rfl⟩
      · exact ⟨m, hm, rfl, rfl, .inl rfl⟩
  have := h.fm h2 h1 (fun i m hm => by obtain ⟨m0, k1, k2, _⟩ := k i m hm; rw [k2]; exact h.hm i m0 k1)
  exact ⟨rfl, this.1, this.2, ⟨fun i m hm => by obtain ⟨m0, k1, _, k2, _⟩ := k i m hm; rw [k2]; exact ok.kw i m0 k1, fun i m hm => by obtain ⟨m0, k1, _, _, k2⟩ := k i m hm; have := ok.hp i m0 k1; rcases k2 with k2 | k2 | k2 <;> omega⟩⟩
theorem rHops (q d B : Nat) (T : List (Option Mb)) (id K : Int) (w : World) (h : Bt w q d B (hoT T id) (rowsOf T)) (hl : T.length = 16) (hI : Ids T 0) (ok : Ok T K) (hK : K < 9223372036854775807) : Calls Try.prog 31 #[.pointer (some ⟨d, 0, none⟩), .int .i64 id] w fun e w' => e = .returned (.tuple #[.int .i64 (hoR T id), .bool (hoB T id)]) ∧ Hid (RE q d B (hoT T id) w w') := by
  refine (rhops_any d B (rowsOf T) id w h.rt (fun m hm => by rw [id_atM hl hI] at hm; obtain ⟨j, hj, _⟩ := atM_mem hm; have := ok.hp j m hj; omega)).mono ?_
  rintro e w' ⟨rfl, h1⟩
  have e1 : rhR (rowsOf T) id = hoR T id := by unfold rhR hoR; rw [id_atM hl hI]; cases atM T id <;> rfl
  have e2 : rhB (rowsOf T) id = hoB T id := by unfold rhB hoB; rw [id_atM hl hI]; cases atM T id <;> rfl
  rw [e1, e2]
  rw [e2, id_atM hl hI] at h1
  refine ⟨rfl, ?_⟩
  rcases h1.out with ⟨k1, k2, k3⟩ | ⟨i, m, g, cs, k1, k2, k3, k0, k4, k5, k6, k7⟩
  · have e : hoT T id = T := by
      unfold hoB at k1
      unfold hoT
      cases hx : atM T id with
      | none => rfl
      | some m =>
        rw [hx] at k1
        simp only at k1 ⊢
        rw [if_neg (of_decide_eq_false k1)]
    rw [e] at h ⊢
    exact ⟨h.below k3, Gf.of k3 h.hB⟩
  · refine h.rg k7 (.inr ⟨k5, cs, k6⟩) ?_
    obtain ⟨j, hj, hj2, _⟩ := atM_mem k3
    have ej : (id - 1).toNat = j := by omega
    have e : hoT T id = T.set j (some { m with hops := hoN m }) := by unfold hoT; rw [k3]; simp only; rw [if_pos k0, ej]
    rw [e, rows_set { m with hops := hoN m } T 0 j i m m hI hj k1 rfl]
    exact k4
end Go.Proofs.Ytnjdmkgkpdebdaa
/- assoc: Route, Mobilise, Find, Expire on both tables; numbers compared. -/
namespace Go.Proofs.Ytnjdmkgkpdebdaa
open Go Go.RowKit Go.Sort
set_option linter.unusedVariables false
theorem fn_nk (a : Int) : fnP a = nkP a false := by
  funext m
  unfold fnP nkP
  by_cases h : m.ac.kind = 6 <;> by_cases h2 : m.ac.addr = a <;> simp [h, h2]
theorem find_eq (T : List (Option Mb)) (a : Int) : fdF (fnP a) (rowsOf T) = fsF (nkP a false) T := by rw [fn_nk, fd_fs]
theorem rg_mn {a : Int} : rgB a = mnB a := by
  unfold rgB mnB
  rw [Bool.eq_iff_iff]
  simp
  omega
theorem rr_sg {a : Int} : rrB a = !sgB a := by
  unfold rrB sgB
  rw [rg_mn]
  by_cases h : a = 0 <;> simp [h]
theorem rr_mm {T : List (Option Mb)} (hl : T.length = 16) (auth : Bool) (npe ntr : Int) : rrF (rowsOf T) auth npe ntr = !mmB T auth npe ntr := by
  unfold rrF mmB
  have e := full_fr (ms := T) hl
  by_cases h1 : npe = 0 <;> by_cases h2 : ntr = 0 <;> by_cases h3 : frF T 0 = 0 <;> cases auth <;> simp [h1, h2, h3, e]
theorem rr_k {T : List (Option Mb)} (hl : T.length = 16) (hI : Ids T 0) (frm : Int) : rrK (rowsOf T) frm = kdI T (fsF (nkP frm false) T) := by
  unfold rrK rrN kdI
  rw [find_eq, id_atM hl hI]
  cases atM T (fsF (nkP frm false) T) <;> rfl
theorem route_a {T : List (Option Mb)} (hl : T.length = 16) (hI : Ids T 0) (ls mc auth : Bool) (mode frm to nos npe ntr : Int) : rwA (rowsOf T) (dsN (rrK (rowsOf T) frm) mode) to nos (rrB frm) (rrF (rowsOf T) auth npe ntr) ls mc = rtA T ls mc auth mode frm to nos npe ntr := by
  rw [rr_k hl hI, rr_sg, rr_mm hl]
  unfold rwA rtA anI rtN
  rw [fd_fs]
  show _ = _
  obtain ⟨D, hD⟩ : ∃ D, dsN (kdI T (fsF (nkP frm false) T)) mode = D := ⟨_, rfl⟩
  obtain ⟨S, hS⟩ : ∃ S, fsF (fun m => srB m.ac) T = S := ⟨_, rfl⟩
  have hS2 : srI T = S := hS
  rw [hD, hS, hS2, rg_mn]
  obtain ⟨M, hM⟩ : ∃ M, mmB T auth npe ntr = M := ⟨_, rfl⟩
  obtain ⟨G, hG⟩ : ∃ G, sgB frm = G := ⟨_, rfl⟩
  rw [hM, hG]
  by_cases h0 : S = 0 <;> cases M <;> cases G <;> cases ls <;> simp [h0]
theorem route_i {T : List (Option Mb)} (hl : T.length = 16) (hI : Ids T 0) (auth : Bool) (mode frm npe ntr : Int) : rwI (rowsOf T) (dsN (rrK (rowsOf T) frm) mode) (rrN (rowsOf T) frm) (rrF (rowsOf T) auth npe ntr) = rtI T auth mode frm npe ntr := by
  rw [rr_k hl hI, rr_mm hl]
  unfold rwI rtI rtN rrN
  rw [find_eq, fd_fs]
  obtain ⟨S, hS⟩ : ∃ S, fsF (fun m => srB m.ac) T = S := ⟨_, rfl⟩
  have hS2 : srI T = S := hS
  rw [hS, hS2]
  obtain ⟨M, hM⟩ : ∃ M, mmB T auth npe ntr = M := ⟨_, rfl⟩
  rw [hM]
  by_cases h0 : S = 0 <;> cases M <;> simp [h0]
theorem pRoute (q d B : Nat) (T : List (Option Mb)) (K : Int) (cf pk : List Value) (av : Value) (ls mc auth : Bool) (mode poll key frm to flags : Int) (w : World) (h : Bt w q d B T (rowsOf T)) (ok : Ok T K) (hc : Cf cf av ls mc) (hp : Pf pk mode poll key) (hm : (Lit.int .i64 mode).wf = true) : Calls Try.prog 19 #[.pointer (some ⟨q, 0, none⟩), .agg cf.toArray, .agg pk.toArray, .int .u32 frm, .int .u32 to, .int .i64 flags, .bool auth] w fun e w' => e = .returned (.tuple #[.int .i64 (rtA T ls mc auth mode frm to (bits .and .i64 flags 1) (bits .and .i64 flags 8) (bits .and .i64 flags 16)), .int .i64 (rtI T auth mode frm (bits .and .i64 flags 8) (bits .and .i64 flags 16))]) ∧ Hid (PE q d B T T K w w') := by
  refine (route_any q T cf pk av ls mc auth mode poll key frm to flags w h.tb hc hp ok.kw hm).mono ?_
  rintro e w' ⟨rfl, h1⟩
  exact ⟨rfl, h.below h1, Gf.of h1 h.hB, ok.up (by omega)⟩
theorem rRoute (q d B : Nat) (T : List (Option Mb)) (cf pk : List Value) (av : Value) (ls mc auth : Bool) (mode poll key frm to flags : Int) (w : World) (h : Bt w q d B T (rowsOf T)) (hc : Cf cf av ls mc) (hp : Pf pk mode poll key) : Calls Try.prog 32 #[.pointer (some ⟨d, 0, none⟩), .agg cf.toArray, .agg pk.toArray, .int .u32 frm, .int .u32 to, .int .i64 flags, .bool auth] w fun e w' => e = .returned (.tuple #[.int .i64 (rtA T ls mc auth mode frm to (bits .and .i64 flags 1) (bits .and .i64 flags 8) (bits .and .i64 flags 16)), .int .i64 (rtI T auth mode frm (bits .and .i64 flags 8) (bits .and .i64 flags 16))]) ∧ Hid (RE q d B T w w') := by
  refine (rroute_any d B (rowsOf T) cf pk av ls mc auth mode poll key frm to flags w h.rt (fun m hm => by have := ids_ge T 0 h.tb.ids0 m hm; omega) hc hp).mono ?_
  rintro e w' ⟨rfl, h1⟩
  rw [route_a h.tb.len h.tb.ids0, route_i h.tb.len h.tb.ids0]
  exact ⟨rfl, h.below h1, Gf.of h1 h.hB⟩
theorem pFind (q d B : Nat) (T : List (Option Mb)) (K a : Int) (w : World) (h : Bt w q d B T (rowsOf T)) (ok : Ok T K) : Calls Try.prog 34 #[.pointer (some ⟨q, 0, none⟩), .int .u32 a] w fun e w' => e = .returned (.int .i64 (fsF (nkP a false) T)) ∧ Hid (PE q d B T T K w w') := by
  refine (find_any q T a w h.tb).mono ?_
  rintro e w' ⟨rfl, h1⟩
  exact ⟨rfl, h.below h1, Gf.of h1 h.hB, ok.up (by omega)⟩
theorem rFind (q d B : Nat) (T : List (Option Mb)) (a : Int) (w : World) (h : Bt w q d B T (rowsOf T)) : Calls Try.prog 35 #[.pointer (some ⟨d, 0, none⟩), .int .u32 a] w fun e w' => e = .returned (.int .i64 (fsF (nkP a false) T)) ∧ Hid (RE q d B T w w') := by
  refine (rfind_any d B (rowsOf T) a w h.rt).mono ?_
  rintro e w' ⟨rfl, h1⟩
  rw [find_eq]
  exact ⟨rfl, h.below h1, Gf.of h1 h.hB⟩
theorem mo_rm {T : List (Option Mb)} (hl : T.length = 16) (hI : Ids T 0) (act par poll key frm : Int) : rmA (rowsOf T) act par poll key frm = moA T act par poll key frm := by
  unfold rmA moA
  rw [id_atM hl hI]
  cases atM T par <;> rfl
theorem mo_wf {T : List (Option Mb)} {act par poll key frm p : Int} {a : As} (h : moA T act par poll key frm = some (a, p)) : (Lit.int .i64 a.kind).wf = true := by
  unfold moA at h
  split at h
  · injection h with h; injection h with h1 h2; rw [← h1]; show (Lit.int .i64 7).wf = true; decide
  · split at h
    · injection h with h; injection h with h1 h2; rw [← h1]; show (Lit.int .i64 8).wf = true; decide
    · split at h
      · split at h
        · cases h
        · split at h
          · injection h with h; injection h with h1 h2; rw [← h1]; show (Lit.int .i64 9).wf = true; decide
          · cases h
      · cases h
theorem pMobilise (q d B : Nat) (T : List (Option Mb)) (K : Int) (pk : List Value) (act par mode poll key frm now : Int) (w : World) (h : Bt w q d B T (rowsOf T)) (ok : Ok T K) (hK : 0 ≤ K) (hp : Pf pk mode poll key) (hn : -9223372036854775808 ≤ now) : Calls Try.prog 17 #[.pointer (some ⟨q, 0, none⟩), .int .i64 act, .int .i64 par, .agg pk.toArray, .int .u32 frm, .int .i64 now] w fun e w' => ∃ b, e = .returned (.tuple #[.int .i64 (moN T act par poll key frm), .int .i64 (moE T act par poll key frm)]) ∧ Hid (PE q d B T (moT T act par poll key frm now b) K w w') := by
  refine (mobilise_any q T pk act par mode poll key frm now w h.tb hp hn).mono ?_
  rintro e w' ⟨b, rfl, h1, h2, h3⟩
  have hB := h.hB
  refine ⟨b, rfl, ?_⟩
  unfold PE
  unfold moT at h1 ⊢
  cases hm : moA T act par poll key frm with
  | none =>
    rw [hm] at h1
    have := h.fm (Fm.ofq h2) h1 h.hm
    exact ⟨this.1, this.2, ok.up (by omega)⟩
  | some ap =>
    obtain ⟨a, p⟩ := ap
    rw [hm] at h1
    have := h.fm (Fm.ofq h2) h1 (fun i m hm => by rcases ad_mem2 hm with k | ⟨k, _⟩; (exact h.hm i m k); omega)
    exact ⟨this.1, this.2, (ok.ad hK (mo_wf hm)).up (by omega)⟩
theorem rMobilise (q d B b : Nat) (T : List (Option Mb)) (pk : List Value) (act par mode poll key frm now : Int) (w : World) (h : Bt w q d B (moT T act par poll key frm now b) (rowsOf T)) (hl : T.length = 16) (hI : Ids T 0) (hp : Pf pk mode poll key) (hn : -9223372036854775808 ≤ now) : Calls Try.prog 33 #[.pointer (some ⟨d, 0, none⟩), .int .i64 act, .int .i64 par, .agg pk.toArray, .int .u32 frm, .int .i64 now] w fun e w' => e = .returned (.tuple #[.int .i64 (moN T act par poll key frm), .int .i64 (moE T act par poll key frm)]) ∧ Hid (RE q d B (moT T act par poll key frm now b) w w') := by
  refine (rmobilise_any d B (rowsOf T) pk act par mode poll key frm now (frF T 0).toNat w h.rt h.hB hp hn (fun a p => ra_lf hl hI a p)).mono ?_
  rintro e w' ⟨rfl, h1, h2⟩
  have e1 : rmN (rowsOf T) act par poll key frm (frF T 0).toNat = moN T act par poll key frm := by
    unfold rmN moN
    rw [mo_rm hl hI]
    cases moA T act par poll key frm with
    | none => rfl
    | some ap => exact ra_n hl hI ap.1 ap.2
  have e2 : rmE (rowsOf T) act par poll key frm = moE T act par poll key frm := by
    unfold rmE moE
    rw [mo_rm hl hI]
    cases moA T act par poll key frm with
    | none => rfl
    | some ap => exact ra_ad hl hI ap.1 ap.2
  rw [e1, e2]
  refine ⟨rfl, h.rg h2 (.inl rfl) (h1.rgrown (w' := w') ?_)⟩
  unfold rmR moT
  rw [mo_rm hl hI]
  cases moA T act par poll key frm with
  | none => rfl
  | some ap => exact ra_rows hl hI ap.1 ap.2 now b
theorem pExpire (q d B : Nat) (T : List (Option Mb)) (now K : Int) (w : World) (h : Bt w q d B T (rowsOf T)) (ok : Ok T K) : Calls Try.prog 16 #[.pointer (some ⟨q, 0, none⟩), .int .i64 now] w fun e w' => ∃ T' v, e = .returned v ∧ Hid (PE q d B T T' K w w' ∧ SpS T (exS T now) T' ∧ OR w' B 3 1 v (intL (gnF T T' 0))) := by
  refine (expire_any q T now w h.tb).mono ?_
  rintro e w' ⟨T', v, rfl, h1, h2, h3, h4⟩
  have := h.fm (Fm.ofq h4.out) h2.out (fun i m hm => h.hm i m (at0_some.1 (h1.out.same i m (at0_some.2 hm))))
  exact ⟨T', v, rfl, ⟨this.1, this.2, (ok.less h1.out.sub).up (by omega)⟩, h1.out, h3.out.mono h.hB⟩
theorem rExpire (q d B : Nat) (T T' : List (Option Mb)) (now : Int) (w : World) (h : Bt w q d B T' (rowsOf T)) (hl : T.length = 16) (hI : Ids T 0) (hs : SpS T (exS T now) T') : Calls Try.prog 29 #[.pointer (some ⟨d, 0, none⟩), .int .i64 now] w fun e w' => ∃ u, e = .returned u ∧ Hid (RE q d B T' w w' ∧ OR w' B 3 1 u (intL (gnF T T' 0))) := by
  refine (rExpire_any d B (rowsOf T) now w h.rt h.hB).mono ?_
  rintro e w' ⟨u, xs, rfl, h1, h2, h3, h4⟩
  have hid : ∀ (i : Nat) m, at0 T i = some m → m.id = (i : Int) + 1 := fun i m hm => by have := hI i m (at0_some.1 hm); simpa using this
  obtain ⟨r1, r2⟩ := rest_all hI hs h1.out (fun i ⟨m, k1, k2⟩ => ⟨m, mem_rows.2 ⟨i, k1⟩, hid i m k1, k2⟩) (fun x ⟨m, k1, k2, k3⟩ => by
    obtain ⟨i, hi⟩ := mem_rows.1 k1
    exact ⟨i, m, by rw [← k2]; exact hid i m hi, hi, m, hi, k3⟩)
  rw [r2] at h2
  rw [r1] at h3
  exact ⟨u, rfl, h.rg h4.out (.inl rfl) h3.out, h2.out.mono h.hB⟩
set_option maxRecDepth 20000 in
set_option maxHeartbeats 1000000 in
theorem ints_any (v u : Value) (xs : List Int) (w : World) (N : Nat) (hN : N ≤ w.heap.size) (h : Rk N w 1 v (intL xs)) (k : Rk N w 1 u (intL xs)) (hl : xs.length ≤ 1000000) : Calls Try.prog 28 #[v, u] w fun e w' => e = .returned (.bool true) ∧ Below w.heap.size w w' := by
  obtain ⟨ao, cap, hv, hr⟩ := ints_read h
  obtain ⟨bo, cap2, hu, kr⟩ := ints_read k
  have HR : Hid (∀ i n, xs[i]? = some n → ∃ ad, ao = some ad ∧ ad.block < N ∧ w.cell? (ad.add i) = some (.int .i64 n)) := hr
  have KR : Hid (∀ i n, xs[i]? = some n → ∃ ad, bo = some ad ∧ ad.block < N ∧ w.cell? (ad.add i) = some (.int .i64 n)) := kr
  obtain ⟨L, hL⟩ : ∃ L, xs.length = L := ⟨_, rfl⟩
  rw [hL] at hv hu hl
  subst hv hu
  have HN : Hid (xs.length = L ∧ N ≤ w.heap.size) := ⟨hL, hN⟩
  have hl2 : (L : Int) ≤ 1000000 := by omega
  clear h hr k kr hL hl hN
  go_enter Try.func28, Try.ntmps28
  refine post_hid fun Q hQ => ?_
  go_wp2_with fail
  go_loopw [13] (fun i wr => ∃ (k : Nat), i = .int .i64 k ∧ (k : Int) ≤ L ∧ Hid (Below w.heap.size w wr)) (fun i _ => L - (intOf i).toNat)
  case atStart => exact ⟨0, rfl, by omega, Below.refl _ _⟩
  case round =>
    obtain ⟨k, rfl, hk, HB⟩ := hrel
    by_cases hlt : (k : Int) < L
    · have hkl : k < xs.length := by rw [HN.out.1]; omega
      obtain ⟨y, hy⟩ : ∃ y, xs[k]? = some y := ⟨_, List.getElem?_eq_getElem hkl⟩
      obtain ⟨ad, g1, g2, g3⟩ := HR.out k y hy
      obtain ⟨bd, b1, b2, b3⟩ := KR.out k y hy
      have hix := ix_in L cap k g1 hlt
      have hiy := ix_in L cap2 k b1 hlt
      have e1 : wr.cell? (ad.add k) = some (.int .i64 y) := by rw [HB.out.cell (p := ad.add k) (by rw [add_block]; have := HN.out.2; omega)]; exact g3
      have e2 : wr.cell? (bd.add k) = some (.int .i64 y) := by rw [HB.out.cell (p := bd.add k) (by rw [add_block]; have := HN.out.2; omega)]; exact b3
      clear g1 b1 g2 b2 g3 b3 hy hkl
      go_upto_region 6 with fail
      rename_i KK hKK
      have HKK : Hid _ := hKK
      clear hKK
      go_quiet (fail)
      rename_i nq
      refine HKK.out _ _ ?_
      clear HKK
      go_wp2_with fail
      go_roundw
      case rel => exact ⟨k + 1, by go_num, by omega, below_drewN HB.out nq⟩
      case measure => simp [intOf]; omega
    · go_wp2_with fail
      rw [hQ.out]
      go_ret
      exact ⟨rfl, HB.out⟩
theorem entry_any (m : Mb) (w : World) : Calls Try.prog 37 #[.agg (enL m).toArray] w fun e w' => e = .returned (.agg (enL m).toArray) ∧ Below w.heap.size w w' := by
  go_enter Try.func37, Try.ntmps37
  refine post_hid fun Q hQ => ?_
  go_wp2_with (first
    | (refine step_boxL (by rfl) 81 _ rfl (enL m).toArray (by rfl) (fun u => by rfl) ?_; intro W1 g1 H1)
    | (refine step_alL (by rfl) 62 rfl (enL zMb).toArray (fun u => by kernel_rfl) ?_; intro w3 g H3)
    | (refine step_ldat 81 _ rfl rfl ⟨g1, 0, none⟩ (by rfl) (enL m) _ Try.underlying81 rfl (by kernel_rfl) (cells_of (l := enL m) (H3.out.other H1.out.bk)) ?_)
    | (refine step_stL (by rfl) _ _ rfl g (enL m).toArray (by rfl) (by rfl) (enL zMb).toArray (by kernel_rfl) (by kernel_rfl) (by kernel_rfl) H3.out.bk ?_; intro w4 H4))
  rw [hQ.out]
  have hb : Below w.heap.size w w3 := below_thru H1.out.be H3.out.be
  exact bodyPost_ret (v := .agg (enL m).toArray) (results_cell_row Try.results37 _ _ g _ _ (0, 0) _ (by rfl) H4.out.bk Try.underlying62 rfl (by kernel_rfl)) rfl ⟨rfl, H4.out.below hb hb.size (by rw [H3.out.at']; exact H1.out.be.size)⟩
end Go.Proofs.Ytnjdmkgkpdebdaa
/- assoc: both tables told, the same. -/
namespace Go.Proofs.Ytnjdmkgkpdebdaa
open Go Go.RowKit Go.Sort
set_option linter.unusedVariables false
set_option maxRecDepth 20000 in
theorem ne_en (m : Mb) (o : Oper) (a : Act) (x y : Operand) (ho : o.op = .binOp .neq 62 x y 62) (hx : a.eval x = .agg (enL m).toArray) (hy : a.eval y = .agg (enL m).toArray) (u : World) : (execOp a.eval o).run Try.prog u = .ok (.value (.bool false)) u := by
  obtain ⟨b, id, ⟨c0, c1, c2, c3, c4, c5, c6, c7, c8, c9, c10, c11⟩, par, ends, hops⟩ := m
  unfold enL at hx hy
  unfold execOp
  simp only [ho, hx, hy]
  go_simp
theorem ix_en0 {ao : Option Addr} {ad : Addr} (n cap k : Nat) (h : ao = some ad) (hk : (k : Int) < n) (w : World) : Sem.run Try.prog (Instr.indexAt 55 (.slice ao n cap) (.int .i64 (k : Int))) w = .ok (.pointer (some (ad.add (k * 15)))) w := by
  have u' := Try.underlying55
  have c3 : Try.prog.cellsOf 62 = 15 := by kernel_rfl
  have h0 : (0 : Int) ≤ k := Int.natCast_nonneg k
  subst h
  go_simp
theorem ix_en (g n cap k : Nat) (hk : (k : Int) < n) (w : World) : Sem.run Try.prog (Instr.indexAt 55 (.slice (some ⟨g, 0, none⟩) n cap) (.int .i64 (k : Int))) w = .ok (.pointer (some ⟨g, k * 15, none⟩)) w := by
  rw [ix_en0 n cap k rfl hk, own_add, Nat.zero_add]
theorem ix_er0 {ao : Option Addr} {ad : Addr} (n cap k : Nat) (h : ao = some ad) (hk : (k : Int) < n) (w : World) : Sem.run Try.prog (Instr.indexAt 89 (.slice ao n cap) (.int .i64 (k : Int))) w = .ok (.pointer (some (ad.add (k * 15)))) w := by
  have u' := Try.underlying89
  have c3 : Try.prog.cellsOf 81 = 15 := by kernel_rfl
  have h0 : (0 : Int) ≤ k := Int.natCast_nonneg k
  subst h
  go_simp
theorem ix_er (g n cap k : Nat) (hk : (k : Int) < n) (w : World) : Sem.run Try.prog (Instr.indexAt 89 (.slice (some ⟨g, 0, none⟩) n cap) (.int .i64 (k : Int))) w = .ok (.pointer (some ⟨g, k * 15, none⟩)) w := by
  rw [ix_er0 n cap k rfl hk, own_add, Nat.zero_add]
def eM1 : Mb := ⟨0, -1, zAs, 0, 0, 0⟩
theorem run_bdE (u : World) : (Instr.build 62 #[(0, .int .i64 (-1))]).run Try.prog u = .ok (.agg (enL eM1).toArray) u := by kernel_rfl
set_option maxRecDepth 20000 in
set_option maxHeartbeats 4000000 in
theorem told_any (q d B : Nat) (T : List (Option Mb)) (w : World) (h : Bt w q d B T (rowsOf T)) : Calls Try.prog 11 #[.pointer (some ⟨q, 0, none⟩), .pointer (some ⟨d, 0, none⟩)] w fun e w' => e = .returned (.bool true) ∧ Below w.heap.size w w' := by
  have HH : Hid (Bt w q d B T (rowsOf T)) := h
  have CL : Hid (Calls Try.prog 14 #[.pointer (some ⟨q, 0, none⟩)] w fun e w' => ∃ v, e = .returned v ∧ Hid (OR w' w.heap.size 62 15 v ((rowsOf T).map enL)) ∧ Hid (Below w.heap.size w w')) := list_any q T w h.tb
  have CR : Hid (∀ u, Below w.heap.size w u → Calls Try.prog 36 #[.pointer (some ⟨d, 0, none⟩)] u fun e w' => ∃ v, e = .returned v ∧ Hid (OR w' u.heap.size 81 15 v ((rowsOf T).map enL)) ∧ Hid (Below u.heap.size u w')) := fun u hu => rlist_any d B (rowsOf T) u (h.rt.below hu)
  have CG : Hid (∀ u id, Below w.heap.size w u → Calls Try.prog 18 #[.pointer (some ⟨q, 0, none⟩), .int .i64 id] u fun e w' => e = .returned (.tuple #[.agg (enL (geM T id)).toArray, .bool (atM T id).isSome]) ∧ Below u.heap.size u w') := fun u id hu => get_any q T id u (h.tb.below hu)
  obtain ⟨l, hl⟩ : ∃ l, l = rowsOf T := ⟨_, rfl⟩
  rw [← hl] at CL CR
  have HL : Hid (∀ m ∈ l, atM T m.id = some m) := fun m hm => by
    rw [hl] at hm
    obtain ⟨i, hi⟩ := mem_rows.1 hm
    have hi2 := at0_some.1 hi
    have hid := h.tb.ids i m hi2
    have h16 : i < 16 := by
      rcases Nat.lt_or_ge i 16 with k | k
      · exact k
      · rw [List.getElem?_eq_none (by rw [h.tb.len]; exact k)] at hi2; cases hi2
    rw [hid, atM_at i h16]
    exact hi
  obtain ⟨n, hn⟩ : ∃ n, l.length = n := ⟨_, rfl⟩
  have hn16 : (n : Int) ≤ 16 := by have := h.rt.len; rw [← hl, hn] at this; omega
  have HN : Hid (l.length = n) := hn
  clear hl h hn
  go_enter Try.func11, Try.ntmps11
  refine post_hid fun Q hQ => ?_
  refine seq_hid fun R0 hR0 => ?_
  go_wp2_with fail
  rw [hR0.out]
  clear hR0
  refine seq_hid fun R0 hR0 => ?_
  go_wp2_with (first
    | (go_at_call 14; refine CL.out.mono ?_; rintro e w1 ⟨v, rfl, HV1, HB1⟩)
    | (go_at_call 36; refine (CR.out w1 HB1.out).mono ?_; rintro e w2 ⟨u, rfl, HU2, HB2⟩))
  rw [hR0.out]
  clear hR0 CL CR
  have H2 : Hid (OR w2 w.heap.size 62 15 v (l.map enL) ∧ OR w2 w.heap.size 81 15 u (l.map enL) ∧ Below w.heap.size w w2) := ⟨HV1.out.below HB2.out (Nat.le_refl _), HU2.out.mono HB1.out.size, below_thru HB1.out HB2.out⟩
  clear HV1 HB1 HU2 HB2
  obtain ⟨vo, vc, hv⟩ := or_len H2.out.1
  obtain ⟨uo, uc, hu⟩ := or_len H2.out.2.1
  rw [List.length_map, HN.out] at hv hu
  subst hv hu
  go_wp2_with fail
  go_loopw [23] (fun i wr => ∃ (k : Nat) (rs : List (List Value)), i = .int .i64 k ∧ (k : Int) ≤ n ∧ Hid (OR wr w.heap.size 62 15 (.slice vo n vc) rs ∧ rs.length = n ∧ (∀ j, k ≤ j → rs[j]? = (l.map enL)[j]?) ∧ OR wr w.heap.size 81 15 (.slice uo n uc) (l.map enL) ∧ Below w.heap.size w wr)) (fun i _ => n - (intOf i).toNat)
  case atStart => exact ⟨0, l.map enL, rfl, by omega, ⟨H2.out.1, by rw [List.length_map, HN.out], fun _ _ => rfl, H2.out.2.1, H2.out.2.2⟩⟩
  case round =>
    obtain ⟨k, rs, rfl, hk, HI⟩ := hrel
    clear H2
    by_cases hlt : (k : Int) < n
    · have hkl : k < l.length := by rw [HN.out]; omega
      obtain ⟨m, hm⟩ : ∃ m, l[k]? = some m := ⟨_, List.getElem?_eq_getElem hkl⟩
      obtain ⟨g, c1, e1, e2, e3, e4⟩ := HI.out.1.form (by rw [HI.out.2.1]; omega)
      obtain ⟨h, c2, f1, f2, f3, f4⟩ := HI.out.2.2.2.1.form (by rw [List.length_map]; omega)
      rw [HI.out.2.1] at e1
      rw [List.length_map, HN.out] at f1
      injection e1 with e1 _ e5
      injection f1 with f1 _ f5
      subst e1 f1 e5 f5
      have hix := ix_en g n vc k hlt
      have hiy := ix_er h n uc k hlt
      have HM : Hid (l[k]? = some m ∧ atM T m.id = some m) := ⟨hm, HL.out m (List.mem_of_getElem? hm)⟩
      have HV : Hid (∀ j u, (enL m)[j]? = some u → wr.cell? ((⟨g, k * 15, none⟩ : Addr).add j) = some u) := fun j u hu => by
        refine HI.out.1.at k (by rw [HI.out.2.1]; omega) j u ?_
        rw [List.getD_eq_getElem?_getD, HI.out.2.2.1 k (Nat.le_refl _), List.getElem?_map, hm]
        exact hu
      have HU : Hid (∀ j u, (enL m)[j]? = some u → wr.cell? ((⟨h, k * 15, none⟩ : Addr).add j) = some u) := fun j u hu => by
        refine HI.out.2.2.2.1.at k (by rw [List.length_map]; omega) j u ?_
        rw [List.getD_eq_getElem?_getD, List.getElem?_map, hm]
        exact hu
      have HGH : Hid (w.heap.size ≤ g ∧ g < wr.heap.size ∧ h < wr.heap.size) := ⟨e3, e4, f4⟩
      have c0 : wr.cell? ⟨g, k * 15, none⟩ = some (.int .i64 m.id) := by have := HV.out 0 _ rfl; rwa [own_add, Nat.add_zero] at this
      have C1 : Hid (Calls Try.prog 18 #[.pointer (some ⟨q, 0, none⟩), .int .i64 m.id] wr fun e w' => e = .returned (.tuple #[.agg (enL m).toArray, .bool true]) ∧ Below wr.heap.size wr w') := by
        have := CG.out wr m.id HI.out.2.2.2.2
        rw [(get_at HM.out.2).1, (get_at HM.out.2).2] at this
        exact this
      clear hm hkl e2 e3 e4 f2 f3 f4
      go_upto_region 8 with (first
        | (go_at_call 18; refine C1.out.mono ?_; rintro e w3 ⟨rfl, hb3⟩; have HB3 : Hid (Below wr.heap.size wr w3) := hb3; clear hb3)
        | (refine step_alL (by rfl) 62 rfl (enL zMb).toArray (fun u => by kernel_rfl) ?_; intro w4 g4 H4)
        | (refine step_stL (by rfl) _ _ rfl g4 (enL m).toArray (by rfl) (by rfl) (enL zMb).toArray (by kernel_rfl) (by kernel_rfl) (by kernel_rfl) H4.out.bk ?_; intro w5 H5))
      rename_i KK hKK
      have HKK : Hid _ := hKK
      clear hKK
      have H6 : Hid (Below wr.heap.size wr w5 ∧ Bk g4 w5 (enL m).toArray 62) := ⟨below_thru HB3.out (H5.out.below H4.out.be H4.out.be.size (Nat.le_of_eq H4.out.at'.symm)), H5.out.bk⟩
      clear HB3 H4 H5 c0 C1
      refine wp_region_grown (by kernel_rfl) (by kernel_rfl) ?_
      intro C hC hG
      have al : Hid (∀ u, C u → Below w5.heap.size w5 u) := hC
      have Z1 : Hid (∀ u, C u → Calls Try.prog 37 #[.agg (enL m).toArray] u fun e w' => e = .returned (.agg (enL m).toArray) ∧ C w') := fun u hu => (entry_any m u).mono fun e w' ⟨h1, h2⟩ => ⟨h1, hG u w' hu h2⟩
      have A1 : Hid (∀ u, C u → ∀ j x, (enL m)[j]? = some x → u.cell? ((⟨g, k * 15, none⟩ : Addr).add j) = some x) := fun u hu j x hx => by
        have b1 := below_thru H6.out.1 (al.out u hu)
        rw [b1.cell (p := (⟨g, k * 15, none⟩ : Addr).add j) (by rw [add_block]; exact HGH.out.2.1)]
        exact HV.out j x hx
      have A2 : Hid (∀ u, C u → ∀ j x, (enL m)[j]? = some x → u.cell? ((⟨h, k * 15, none⟩ : Addr).add j) = some x) := fun u hu j x hx => by
        have b1 := below_thru H6.out.1 (al.out u hu)
        rw [b1.cell (p := (⟨h, k * 15, none⟩ : Addr).add j) (by rw [add_block]; exact HGH.out.2.2)]
        exact HU.out j x hx
      have A3 : Hid (∀ u, C u → ∀ j x, (enL m)[j]? = some x → u.cell? ((⟨g4, 0, none⟩ : Addr).add j) = some x) := fun u hu => cells_of (l := enL m) (H6.out.2.kept ((al.out u hu).block _ H6.out.2.lt))
      refine QW.out ?_
      repeat (first
        | (refine qa_ldW (by rfl) 62 _ rfl ⟨g, k * 15, none⟩ (by rfl) (enL m) _ Try.underlying62 rfl (by kernel_rfl) A1.out ?_; try go_simp)
        | (refine qa_ldW (by rfl) 81 _ rfl ⟨h, k * 15, none⟩ (by rfl) (enL m) _ Try.underlying81 rfl (by kernel_rfl) A2.out ?_; try go_simp)
        | (refine qa_ldW (by rfl) 62 _ rfl ⟨g4, 0, none⟩ (by rfl) (enL m) _ Try.underlying62 rfl (by kernel_rfl) A3.out ?_; try go_simp)
        | (refine qa_valW (by rfl) ⟨_, fun u hu => ne_en m _ _ _ _ rfl (by rfl) (by rfl) u, ?_⟩; try go_simp)
        | (refine qa_valW (by rfl) ?_; apply Exists.intro; refine ⟨fun u hu => ?_, ?_⟩; (go_simp; exact rfl); try go_simp)
        | (refine qa_callW (by rfl) 37 _ _ ?_ (fun u hu => Z1.out u hu) ?_; (focus (intro u hu; go_simp; first | done | exact rfl)); try go_simp))
      refine qw_nil ?_
      intro w6 hu
      have H7 : Hid (OR w6 w.heap.size 62 15 (.slice (some ⟨g, 0, none⟩) n vc) rs ∧ OR w6 w.heap.size 81 15 (.slice (some ⟨h, 0, none⟩) n uc) (l.map enL) ∧ Below w.heap.size w w6) := by
        have b1 := below_thru H6.out.1 hu
        exact ⟨HI.out.1.below b1 (Nat.le_refl _), HI.out.2.2.2.1.below b1 (Nat.le_refl _), below_thru HI.out.2.2.2.2 b1⟩
      have HR : Hid (rs.length = n ∧ ∀ j, k ≤ j → rs[j]? = (l.map enL)[j]?) := ⟨HI.out.2.1, HI.out.2.2.1⟩
      clear al Z1 hC hG hu A1 A2 A3 H6 HV HU HI
      refine HKK.out _ _ ?_
      clear HKK
      go_wp2_with (first
        | (refine step_bdL (by rfl) 62 [(0, .const (.int .i64 (-1)))] rfl [(0, .int .i64 (-1))] (by rfl) (.agg (enL eM1).toArray) (run_bdE _) ?_)
        | (refine wpList_stk rfl 62 _ _ rfl (i := k) (r := enL eM1) (rows := rs) (B := w.heap.size) (g := g) (cap := vc) (k := 15) ?_ (by kernel_rfl) (by rfl) (by rfl) (by rw [HR.out.1]; omega) rfl (enL_one eM1) ?_; (rw [HR.out.1]; exact H7.out.1); intro w7 g7 g8 g9; have H8 : Hid (OR w7 w.heap.size 62 15 (.slice (some ⟨g, 0, none⟩) n vc) (rs.set k (enL eM1)) ∧ w6.grownBy w7 (some g)) := ⟨by rw [HR.out.1] at g7; exact g7, g8⟩; clear g7 g8 g9))
      go_roundw
      case rel =>
        refine ⟨k + 1, rs.set k (enL eM1), by go_num, by omega, ⟨H8.out.1, by rw [List.length_set]; exact HR.out.1, fun j hj => ?_, H7.out.2.1.keep (fun b hb => ?_), H7.out.2.2.trans ⟨H8.out.2.os, H8.out.2.tape, H8.out.2.output, H8.out.2.size, fun p hp => H8.out.2.block p (Nat.lt_of_lt_of_le hp H7.out.2.2.size) (fun e => by injection e with e; have := HGH.out.1; omega)⟩⟩⟩
        · rw [List.getElem?_set_ne (by omega)]
          exact HR.out.2 j (by omega)
        · obtain ⟨_, cur, hc⟩ := H7.out.2.1.tys b hb
          obtain ⟨_, cur2, hc2⟩ := H7.out.1.tys g rfl
          exact H8.out.2.block b hc.lt (fun e => bk_ne hc hc2 (by decide) (Option.some.inj e))
      case measure => simp [intOf]; omega
    · have C0 : Hid (Calls Try.prog 18 #[.pointer (some ⟨q, 0, none⟩), .int .i64 0] wr fun e w' => e = .returned (.tuple #[.agg (enL zMb).toArray, .bool false]) ∧ Below wr.heap.size wr w') := by
        have := CG.out wr 0 HI.out.2.2.2.2
        rw [geM, atM_zero] at this
        exact this
      go_wp2_with (first
        | (go_at_call 18; refine C0.out.mono ?_; rintro e w3 ⟨rfl, hb3⟩; have HB3 : Hid (Below wr.heap.size wr w3) := hb3; clear hb3)
        | (refine step_alL (by rfl) 62 rfl (enL zMb).toArray (fun u => by kernel_rfl) ?_; intro w4 g4 H4)
        | (refine step_stL (by rfl) _ _ rfl g4 (enL zMb).toArray (by rfl) (by rfl) (enL zMb).toArray (by kernel_rfl) (by kernel_rfl) (by kernel_rfl) H4.out.bk ?_; intro w5 H5))
      rw [hQ.out]
      go_ret
      exact ⟨rfl, below_thru HI.out.2.2.2.2 (below_thru HB3.out (H5.out.below H4.out.be H4.out.be.size (Nat.le_of_eq H4.out.at'.symm)))⟩
end Go.Proofs.Ytnjdmkgkpdebdaa
/- assoc: a step done at both tables. -/
namespace Go.Proofs.Ytnjdmkgkpdebdaa
open Go Go.RowKit Go.Sort
set_option linter.unusedVariables false
/-- what a step leaves -/
def DE (q d B : Nat) (K : Int) (w w' : World) : Prop := ∃ T', Bt w' q d B T' (rowsOf T') ∧ Gf w w' B ∧ Ok T' (K + 1)
/-- the boxes of a step -/
structure Sb2 (w W : World) (q d B : Nat) (T : List (Option Mb)) (l : List Mb) (g1 g2 : Nat) (cf : List Value) (x : Stp) : Prop where
  bt : Bt W q d B T l
  gf : Gf w W B
  b1 : Bk g1 W cf.toArray 29
  b2 : Bk g2 W (spC x).toArray 49
theorem Sb2.go {w W W' : World} {q d B g1 g2 : Nat} {T T' : List (Option Mb)} {l l' : List Mb} {cf : List Value} {x : Stp} (h : Sb2 w W q d B T l g1 g2 cf x) (hb : Bt W' q d B T' l') (hg : Gf W W' B) : Sb2 w W' q d B T' l' g1 g2 cf x :=
  ⟨hb, h.gf.trans hg, hg.bk h.b1 (by decide), hg.bk h.b2 (by decide)⟩
theorem Sb2.same {w W W' : World} {q d B g1 g2 : Nat} {T : List (Option Mb)} {l : List Mb} {cf : List Value} {x : Stp} (h : Sb2 w W q d B T l g1 g2 cf x) (e1 : W'.heap = W.heap) (e2 : W'.os = W.os) (e3 : W'.tape = W.tape) (e4 : W'.output = W.output) : Sb2 w W' q d B T l g1 g2 cf x := by
  have hb : Below W.heap.size W W' := ⟨e2, e3, e4, by rw [e1]; exact Nat.le_refl _, fun k _ => by rw [e1]⟩
  exact h.go (h.bt.below hb) (Gf.of hb h.bt.hB)
theorem Sb2.at {w W : World} {q d B g1 g2 : Nat} {T : List (Option Mb)} {l : List Mb} {cf : List Value} {x : Stp} (h : Sb2 w W q d B T l g1 g2 cf x) (j : Nat) : W.cell? ⟨g2, j, none⟩ = (spC x)[j]? := by rw [h.b2.cell j, List.getElem?_toArray]
theorem Sb2.as {w W : World} {q d B g1 g2 : Nat} {T : List (Option Mb)} {l : List Mb} {cf : List Value} {x : Stp} (h : Sb2 w W q d B T l g1 g2 cf x) (hx : okX x) : ∀ j u, (asL x.ac)[j]? = some u → W.cell? ((⟨g2, 1, none⟩ : Addr).add j) = some u := fun j u hu => by
  rw [own_add, h.at]
  exact (sp_at hx).2.1 j u hu
theorem Sb2.pk {w W : World} {q d B g1 g2 : Nat} {T : List (Option Mb)} {l : List Mb} {cf : List Value} {x : Stp} (h : Sb2 w W q d B T l g1 g2 cf x) (hx : okX x) : ∀ j u, x.pk[j]? = some u → W.cell? ((⟨g2, 15, none⟩ : Addr).add j) = some u := fun j u hu => by
  rw [own_add, h.at]
  exact (sp_at hx).2.2.2.2.1 j u hu
theorem Sb2.cf {w W : World} {q d B g1 g2 : Nat} {T : List (Option Mb)} {l : List Mb} {cf : List Value} {x : Stp} (h : Sb2 w W q d B T l g1 g2 cf x) : ∀ j u, cf[j]? = some u → W.cell? ((⟨g1, 0, none⟩ : Addr).add j) = some u := cells_of (l := cf) h.b1
theorem wf64 {n : Int} (h : (Lit.int .i64 n).wf = true) : -9223372036854775808 ≤ n ∧ n ≤ 9223372036854775807 := by
  have e1 : IntKind.i64.min = -9223372036854775808 := by decide
  have e2 : IntKind.i64.max = 9223372036854775807 := by decide
  simp [Lit.wf, e1, e2] at h
  omega
set_option maxRecDepth 20000 in
set_option maxHeartbeats 4000000 in
theorem does_0 (q d B : Nat) (T : List (Option Mb)) (K : Int) (cf : List Value) (av : Value) (ls mc : Bool) (x : Stp) (w : World) (h : Bt w q d B T (rowsOf T)) (ok : Ok T K) (hK0 : 0 ≤ K) (hK : K < 9223372036854775807) (hc : Cf cf av ls mc) (hx : okX x) (hk : x.k = 0) : Calls Try.prog 10 #[.pointer (some ⟨q, 0, none⟩), .pointer (some ⟨d, 0, none⟩), .agg cf.toArray, .agg (spC x).toArray] w fun e w' => e = .returned (.bool true) ∧ Hid (DE q d B K w w') := by
  have HH : Hid (Bt w q d B T (rowsOf T) ∧ Ok T K ∧ 0 ≤ K ∧ K < 9223372036854775807) := ⟨h, ok, hK0, hK⟩
  have HC : Hid (Cf cf av ls mc) := hc
  have HX : Hid (okX x ∧ -9223372036854775808 ≤ x.now) := ⟨hx, (wf64 hx.wn).1⟩
  have HI : Hid (T.length = 16 ∧ Ids T 0) := ⟨h.tb.len, h.tb.ids0⟩
  clear h ok hK0 hK hc hx
  go_enter Try.func10, Try.ntmps10
  refine post_hid fun Q hQ => ?_
  refine seq_hid fun R0 hR0 => ?_
  go_wp2_with (first
    | (refine step_boxL (by rfl) 29 _ rfl cf.toArray (by rfl) (fun u => by rfl) ?_; intro W1 g1 H1)
    | (refine step_boxL (by rfl) 49 _ rfl (spC x).toArray (by rfl) (fun u => by rfl) ?_; intro W2 g2 H2))
  rw [hR0.out]
  clear hR0
  have HS : Hid (Sb2 w W2 q d B T (rowsOf T) g1 g2 cf x) := by
    have hb := below_thru H1.out.be H2.out.be
    exact ⟨HH.out.1.below hb, Gf.of hb HH.out.1.hB, H2.out.other H1.out.bk, H2.out.bk⟩
  clear H1 H2
  have c0 : W2.cell? ⟨g2, 0, none⟩ = some (.int .i64 x.k) := by rw [HS.out.at]; exact (sp_at HX.out.1).1
  rw [hk] at c0
  have w213 : W2.cell? ⟨g2, 13, none⟩ = some (.int .i64 x.id) := by rw [HS.out.at]; exact (sp_at HX.out.1).2.2.1
  have w214 : W2.cell? ⟨g2, 14, none⟩ = some (.int .i64 x.now) := by rw [HS.out.at]; exact (sp_at HX.out.1).2.2.2.1
  have HAsa : Hid (∀ j u, (asL x.ac)[j]? = some u → W2.cell? ((⟨g2, 1, none⟩ : Addr).add j) = some u) := HS.out.as HX.out.1
  obtain ⟨N, hN⟩ : ∃ N, adN T x.ac x.id = N := ⟨_, rfl⟩
  obtain ⟨E, hE⟩ : ∃ E, adE T x.ac x.id = E := ⟨_, rfl⟩
  have HNE : Hid (adN T x.ac x.id = N ∧ adE T x.ac x.id = E) := ⟨hN, hE⟩
  have CP : Hid (Calls Try.prog 15 #[.pointer (some ⟨q, 0, none⟩), .agg (asL x.ac).toArray, .int .i64 x.id, .int .i64 x.now] W2 fun e w' => ∃ b, e = .returned (.tuple #[.int .i64 N, .int .i64 E]) ∧ Hid (PE q d B T (adT T x.ac x.id x.now b) K W2 w')) := by
    rw [← hN, ← hE]
    exact pAdd q d B T x.ac x.id x.now K W2 HS.out.bt HH.out.2.1 HH.out.2.2.1 HX.out.2 HX.out.1.wk
  clear hN hE
  go_upto_region 4 with (first
    | (go_at_call 15; refine CP.out.mono ?_; rintro e w3 ⟨b, rfl, HP⟩; have HS3 : Hid (Sb2 w w3 q d B (adT T x.ac x.id x.now b) (rowsOf T) g1 g2 cf x) := HS.out.go HP.out.1 HP.out.2.1)
    | (refine step_ldat 41 _ rfl rfl ⟨g2, 1, none⟩ (by rfl) (asL x.ac) _ Try.underlying41 rfl (by kernel_rfl) HAsa.out ?_))
  clear CP c0 w213 w214
  have w313 : w3.cell? ⟨g2, 13, none⟩ = some (.int .i64 x.id) := by rw [HS3.out.at]; exact (sp_at HX.out.1).2.2.1
  have w314 : w3.cell? ⟨g2, 14, none⟩ = some (.int .i64 x.now) := by rw [HS3.out.at]; exact (sp_at HX.out.1).2.2.2.1
  have HAsb : Hid (∀ j u, (asL x.ac)[j]? = some u → w3.cell? ((⟨g2, 1, none⟩ : Addr).add j) = some u) := HS3.out.as HX.out.1
  have CR : Hid (Calls Try.prog 24 #[.pointer (some ⟨d, 0, none⟩), .agg (asL x.ac).toArray, .int .i64 x.id, .int .i64 x.now] w3 fun e w' => e = .returned (.tuple #[.int .i64 N, .int .i64 E]) ∧ Hid (RE q d B (adT T x.ac x.id x.now b) w3 w')) := by
    rw [← HNE.out.1, ← HNE.out.2]
    exact rAdd q d B b T x.ac x.id x.now w3 HS3.out.bt HI.out.1 HI.out.2 HX.out.2
  go_upto_region 5 with (first
    | (go_at_call 24; refine CR.out.mono ?_; rintro e w4 ⟨rfl, HR⟩)
    | (refine step_ldat 41 _ rfl rfl ⟨g2, 1, none⟩ (by rfl) (asL x.ac) _ Try.underlying41 rfl (by kernel_rfl) HAsb.out ?_))
  clear CR w313 w314
  go_wp2_with fail
  rw [hQ.out]
  go_ret
  exact ⟨rfl, _, HR.out.1, HS3.out.gf.trans HR.out.2, HP.out.2.2⟩
end Go.Proofs.Ytnjdmkgkpdebdaa
/- assoc: a step done at both tables. -/
namespace Go.Proofs.Ytnjdmkgkpdebdaa
open Go Go.RowKit Go.Sort
set_option linter.unusedVariables false
set_option maxRecDepth 20000 in
set_option maxHeartbeats 4000000 in
theorem does_4 (q d B : Nat) (T : List (Option Mb)) (K : Int) (cf : List Value) (av : Value) (ls mc : Bool) (x : Stp) (w : World) (h : Bt w q d B T (rowsOf T)) (ok : Ok T K) (hK0 : 0 ≤ K) (hK : K < 9223372036854775807) (hc : Cf cf av ls mc) (hx : okX x) (hk : x.k = 4) : Calls Try.prog 10 #[.pointer (some ⟨q, 0, none⟩), .pointer (some ⟨d, 0, none⟩), .agg cf.toArray, .agg (spC x).toArray] w fun e w' => e = .returned (.bool true) ∧ Hid (DE q d B K w w') := by
  have HH : Hid (Bt w q d B T (rowsOf T) ∧ Ok T K ∧ 0 ≤ K ∧ K < 9223372036854775807) := ⟨h, ok, hK0, hK⟩
  have HC : Hid (Cf cf av ls mc) := hc
  have HX : Hid (okX x ∧ -9223372036854775808 ≤ x.now) := ⟨hx, (wf64 hx.wn).1⟩
  have HI : Hid (T.length = 16 ∧ Ids T 0) := ⟨h.tb.len, h.tb.ids0⟩
  clear h ok hK0 hK hc hx
  go_enter Try.func10, Try.ntmps10
  refine post_hid fun Q hQ => ?_
  refine seq_hid fun R0 hR0 => ?_
  go_wp2_with (first
    | (refine step_boxL (by rfl) 29 _ rfl cf.toArray (by rfl) (fun u => by rfl) ?_; intro W1 g1 H1)
    | (refine step_boxL (by rfl) 49 _ rfl (spC x).toArray (by rfl) (fun u => by rfl) ?_; intro W2 g2 H2))
  rw [hR0.out]
  clear hR0
  have HS : Hid (Sb2 w W2 q d B T (rowsOf T) g1 g2 cf x) := by
    have hb := below_thru H1.out.be H2.out.be
    exact ⟨HH.out.1.below hb, Gf.of hb HH.out.1.hB, H2.out.other H1.out.bk, H2.out.bk⟩
  clear H1 H2
  have c0 : W2.cell? ⟨g2, 0, none⟩ = some (.int .i64 x.k) := by rw [HS.out.at]; exact (sp_at HX.out.1).1
  rw [hk] at c0
  have w213 : W2.cell? ⟨g2, 13, none⟩ = some (.int .i64 x.id) := by rw [HS.out.at]; exact (sp_at HX.out.1).2.2.1
  obtain ⟨N, hN⟩ : ∃ N, hoR T x.id = N := ⟨_, rfl⟩
  obtain ⟨E, hE⟩ : ∃ E, hoB T x.id = E := ⟨_, rfl⟩
  have HNE : Hid (hoR T x.id = N ∧ hoB T x.id = E) := ⟨hN, hE⟩
  have CP : Hid (Calls Try.prog 30 #[.pointer (some ⟨q, 0, none⟩), .int .i64 x.id] W2 fun e w' => e = .returned (.tuple #[.int .i64 N, .bool E]) ∧ Hid (PE q d B T (hoT T x.id) K W2 w')) := by
    rw [← hN, ← hE]
    exact pHops q d B T x.id K W2 HS.out.bt HH.out.2.1 HH.out.2.2.1 HH.out.2.2.2
  clear hN hE
  go_upto_region 14 with (first
    | (go_at_call 30; refine CP.out.mono ?_; rintro e w3 ⟨rfl, HP⟩; have HS3 : Hid (Sb2 w w3 q d B (hoT T x.id) (rowsOf T) g1 g2 cf x) := HS.out.go HP.out.1 HP.out.2.1))
  clear CP c0 w213
  have w313 : w3.cell? ⟨g2, 13, none⟩ = some (.int .i64 x.id) := by rw [HS3.out.at]; exact (sp_at HX.out.1).2.2.1
  have CR : Hid (Calls Try.prog 31 #[.pointer (some ⟨d, 0, none⟩), .int .i64 x.id] w3 fun e w' => e = .returned (.tuple #[.int .i64 N, .bool E]) ∧ Hid (RE q d B (hoT T x.id) w3 w')) := by
    rw [← HNE.out.1, ← HNE.out.2]
    exact rHops q d B T x.id K w3 HS3.out.bt HI.out.1 HI.out.2 HH.out.2.1 HH.out.2.2.2
  go_upto_region 15 with (first
    | (go_at_call 31; refine CR.out.mono ?_; rintro e w4 ⟨rfl, HR⟩))
  clear CR w313
  go_wp2_with fail
  rw [hQ.out]
  go_ret
  exact ⟨rfl, _, HR.out.1, HS3.out.gf.trans HR.out.2, HP.out.2.2⟩
end Go.Proofs.Ytnjdmkgkpdebdaa
/- assoc: a step done at both tables. -/
namespace Go.Proofs.Ytnjdmkgkpdebdaa
open Go Go.RowKit Go.Sort
set_option linter.unusedVariables false
set_option maxRecDepth 20000 in
set_option maxHeartbeats 4000000 in
theorem does_5 (q d B : Nat) (T : List (Option Mb)) (K : Int) (cf : List Value) (av : Value) (ls mc : Bool) (x : Stp) (w : World) (h : Bt w q d B T (rowsOf T)) (ok : Ok T K) (hK0 : 0 ≤ K) (hK : K < 9223372036854775807) (hc : Cf cf av ls mc) (hx : okX x) (hk : x.k = 5) : Calls Try.prog 10 #[.pointer (some ⟨q, 0, none⟩), .pointer (some ⟨d, 0, none⟩), .agg cf.toArray, .agg (spC x).toArray] w fun e w' => e = .returned (.bool true) ∧ Hid (DE q d B K w w') := by
  have HH : Hid (Bt w q d B T (rowsOf T) ∧ Ok T K ∧ 0 ≤ K ∧ K < 9223372036854775807) := ⟨h, ok, hK0, hK⟩
  have HC : Hid (Cf cf av ls mc) := hc
  have HX : Hid (okX x ∧ -9223372036854775808 ≤ x.now) := ⟨hx, (wf64 hx.wn).1⟩
  have HI : Hid (T.length = 16 ∧ Ids T 0) := ⟨h.tb.len, h.tb.ids0⟩
  clear h ok hK0 hK hc hx
  go_enter Try.func10, Try.ntmps10
  refine post_hid fun Q hQ => ?_
  refine seq_hid fun R0 hR0 => ?_
  go_wp2_with (first
    | (refine step_boxL (by rfl) 29 _ rfl cf.toArray (by rfl) (fun u => by rfl) ?_; intro W1 g1 H1)
    | (refine step_boxL (by rfl) 49 _ rfl (spC x).toArray (by rfl) (fun u => by rfl) ?_; intro W2 g2 H2))
  rw [hR0.out]
  clear hR0
  have HS : Hid (Sb2 w W2 q d B T (rowsOf T) g1 g2 cf x) := by
    have hb := below_thru H1.out.be H2.out.be
    exact ⟨HH.out.1.below hb, Gf.of hb HH.out.1.hB, H2.out.other H1.out.bk, H2.out.bk⟩
  clear H1 H2
  have c0 : W2.cell? ⟨g2, 0, none⟩ = some (.int .i64 x.k) := by rw [HS.out.at]; exact (sp_at HX.out.1).1
  rw [hk] at c0
  have w232 : W2.cell? ⟨g2, 32, none⟩ = some (.int .u32 x.frm) := by rw [HS.out.at]; exact (sp_at HX.out.1).2.2.2.2.2.1
  have w233 : W2.cell? ⟨g2, 33, none⟩ = some (.int .u32 x.to) := by rw [HS.out.at]; exact (sp_at HX.out.1).2.2.2.2.2.2.1
  have w234 : W2.cell? ⟨g2, 34, none⟩ = some (.int .i64 x.flags) := by rw [HS.out.at]; exact (sp_at HX.out.1).2.2.2.2.2.2.2.1
  have w235 : W2.cell? ⟨g2, 35, none⟩ = some (.bool x.auth) := by rw [HS.out.at]; exact (sp_at HX.out.1).2.2.2.2.2.2.2.2.1
  have HCfa : Hid (∀ j u, cf[j]? = some u → W2.cell? ((⟨g1, 0, none⟩ : Addr).add j) = some u) := HS.out.cf
  have HPka : Hid (∀ j u, x.pk[j]? = some u → W2.cell? ((⟨g2, 15, none⟩ : Addr).add j) = some u) := HS.out.pk HX.out.1
  obtain ⟨N, hN⟩ : ∃ N, rtA T ls mc x.auth x.mode x.frm x.to (bits .and .i64 x.flags 1) (bits .and .i64 x.flags 8) (bits .and .i64 x.flags 16) = N := ⟨_, rfl⟩
  obtain ⟨E, hE⟩ : ∃ E, rtI T x.auth x.mode x.frm (bits .and .i64 x.flags 8) (bits .and .i64 x.flags 16) = E := ⟨_, rfl⟩
  have HNE : Hid (rtA T ls mc x.auth x.mode x.frm x.to (bits .and .i64 x.flags 1) (bits .and .i64 x.flags 8) (bits .and .i64 x.flags 16) = N ∧ rtI T x.auth x.mode x.frm (bits .and .i64 x.flags 8) (bits .and .i64 x.flags 16) = E) := ⟨hN, hE⟩
  have CP : Hid (Calls Try.prog 19 #[.pointer (some ⟨q, 0, none⟩), .agg cf.toArray, .agg x.pk.toArray, .int .u32 x.frm, .int .u32 x.to, .int .i64 x.flags, .bool x.auth] W2 fun e w' => e = .returned (.tuple #[.int .i64 N, .int .i64 E]) ∧ Hid (PE q d B T T K W2 w')) := by
    rw [← hN, ← hE]
    exact pRoute q d B T K cf x.pk av ls mc x.auth x.mode x.poll x.key x.frm x.to x.flags W2 HS.out.bt HH.out.2.1 HC.out HX.out.1.pf HX.out.1.wm
  clear hN hE
  go_upto_region 18 with (first
    | (go_at_call 19; refine CP.out.mono ?_; rintro e w3 ⟨rfl, HP⟩; have HS3 : Hid (Sb2 w w3 q d B T (rowsOf T) g1 g2 cf x) := HS.out.go HP.out.1 HP.out.2.1)
    | (refine step_ldat 29 _ rfl rfl ⟨g1, 0, none⟩ (by rfl) cf _ Try.underlying29 rfl (by rw [HC.out.len]; kernel_rfl) HCfa.out ?_)
    | (refine step_ldat 47 _ rfl rfl ⟨g2, 15, none⟩ (by rfl) x.pk _ Try.underlying47 rfl (by rw [HX.out.1.pf.len]; kernel_rfl) HPka.out ?_))
  clear CP c0 w232 w233 w234 w235
  have w332 : w3.cell? ⟨g2, 32, none⟩ = some (.int .u32 x.frm) := by rw [HS3.out.at]; exact (sp_at HX.out.1).2.2.2.2.2.1
  have w333 : w3.cell? ⟨g2, 33, none⟩ = some (.int .u32 x.to) := by rw [HS3.out.at]; exact (sp_at HX.out.1).2.2.2.2.2.2.1
  have w334 : w3.cell? ⟨g2, 34, none⟩ = some (.int .i64 x.flags) := by rw [HS3.out.at]; exact (sp_at HX.out.1).2.2.2.2.2.2.2.1
  have w335 : w3.cell? ⟨g2, 35, none⟩ = some (.bool x.auth) := by rw [HS3.out.at]; exact (sp_at HX.out.1).2.2.2.2.2.2.2.2.1
  have HCfb : Hid (∀ j u, cf[j]? = some u → w3.cell? ((⟨g1, 0, none⟩ : Addr).add j) = some u) := HS3.out.cf
  have HPkb : Hid (∀ j u, x.pk[j]? = some u → w3.cell? ((⟨g2, 15, none⟩ : Addr).add j) = some u) := HS3.out.pk HX.out.1
  have CR : Hid (Calls Try.prog 32 #[.pointer (some ⟨d, 0, none⟩), .agg cf.toArray, .agg x.pk.toArray, .int .u32 x.frm, .int .u32 x.to, .int .i64 x.flags, .bool x.auth] w3 fun e w' => e = .returned (.tuple #[.int .i64 N, .int .i64 E]) ∧ Hid (RE q d B T w3 w')) := by
    rw [← HNE.out.1, ← HNE.out.2]
    exact rRoute q d B T cf x.pk av ls mc x.auth x.mode x.poll x.key x.frm x.to x.flags w3 HS3.out.bt HC.out HX.out.1.pf
  go_upto_region 19 with (first
    | (go_at_call 32; refine CR.out.mono ?_; rintro e w4 ⟨rfl, HR⟩)
    | (refine step_ldat 29 _ rfl rfl ⟨g1, 0, none⟩ (by rfl) cf _ Try.underlying29 rfl (by rw [HC.out.len]; kernel_rfl) HCfb.out ?_)
    | (refine step_ldat 47 _ rfl rfl ⟨g2, 15, none⟩ (by rfl) x.pk _ Try.underlying47 rfl (by rw [HX.out.1.pf.len]; kernel_rfl) HPkb.out ?_))
  clear CR w332 w333 w334 w335
  go_wp2_with fail
  rw [hQ.out]
  go_ret
  exact ⟨rfl, _, HR.out.1, HS3.out.gf.trans HR.out.2, HP.out.2.2⟩
end Go.Proofs.Ytnjdmkgkpdebdaa
/- assoc: a step done at both tables. -/
namespace Go.Proofs.Ytnjdmkgkpdebdaa
open Go Go.RowKit Go.Sort
set_option linter.unusedVariables false
set_option maxRecDepth 20000 in
set_option maxHeartbeats 4000000 in
theorem does_6 (q d B : Nat) (T : List (Option Mb)) (K : Int) (cf : List Value) (av : Value) (ls mc : Bool) (x : Stp) (w : World) (h : Bt w q d B T (rowsOf T)) (ok : Ok T K) (hK0 : 0 ≤ K) (hK : K < 9223372036854775807) (hc : Cf cf av ls mc) (hx : okX x) (hk : x.k = 6) : Calls Try.prog 10 #[.pointer (some ⟨q, 0, none⟩), .pointer (some ⟨d, 0, none⟩), .agg cf.toArray, .agg (spC x).toArray] w fun e w' => e = .returned (.bool true) ∧ Hid (DE q d B K w w') := by
  have HH : Hid (Bt w q d B T (rowsOf T) ∧ Ok T K ∧ 0 ≤ K ∧ K < 9223372036854775807) := ⟨h, ok, hK0, hK⟩
  have HC : Hid (Cf cf av ls mc) := hc
  have HX : Hid (okX x ∧ -9223372036854775808 ≤ x.now) := ⟨hx, (wf64 hx.wn).1⟩
  have HI : Hid (T.length = 16 ∧ Ids T 0) := ⟨h.tb.len, h.tb.ids0⟩
  clear h ok hK0 hK hc hx
  go_enter Try.func10, Try.ntmps10
  refine post_hid fun Q hQ => ?_
  refine seq_hid fun R0 hR0 => ?_
  go_wp2_with (first
    | (refine step_boxL (by rfl) 29 _ rfl cf.toArray (by rfl) (fun u => by rfl) ?_; intro W1 g1 H1)
    | (refine step_boxL (by rfl) 49 _ rfl (spC x).toArray (by rfl) (fun u => by rfl) ?_; intro W2 g2 H2))
  rw [hR0.out]
  clear hR0
  have HS : Hid (Sb2 w W2 q d B T (rowsOf T) g1 g2 cf x) := by
    have hb := below_thru H1.out.be H2.out.be
    exact ⟨HH.out.1.below hb, Gf.of hb HH.out.1.hB, H2.out.other H1.out.bk, H2.out.bk⟩
  clear H1 H2
  have c0 : W2.cell? ⟨g2, 0, none⟩ = some (.int .i64 x.k) := by rw [HS.out.at]; exact (sp_at HX.out.1).1
  rw [hk] at c0
  have w213 : W2.cell? ⟨g2, 13, none⟩ = some (.int .i64 x.id) := by rw [HS.out.at]; exact (sp_at HX.out.1).2.2.1
  have w214 : W2.cell? ⟨g2, 14, none⟩ = some (.int .i64 x.now) := by rw [HS.out.at]; exact (sp_at HX.out.1).2.2.2.1
  have w232 : W2.cell? ⟨g2, 32, none⟩ = some (.int .u32 x.frm) := by rw [HS.out.at]; exact (sp_at HX.out.1).2.2.2.2.2.1
  have w236 : W2.cell? ⟨g2, 36, none⟩ = some (.int .i64 x.act) := by rw [HS.out.at]; exact (sp_at HX.out.1).2.2.2.2.2.2.2.2.2
  have HPka : Hid (∀ j u, x.pk[j]? = some u → W2.cell? ((⟨g2, 15, none⟩ : Addr).add j) = some u) := HS.out.pk HX.out.1
  obtain ⟨N, hN⟩ : ∃ N, moN T x.act x.id x.poll x.key x.frm = N := ⟨_, rfl⟩
  obtain ⟨E, hE⟩ : ∃ E, moE T x.act x.id x.poll x.key x.frm = E := ⟨_, rfl⟩
  have HNE : Hid (moN T x.act x.id x.poll x.key x.frm = N ∧ moE T x.act x.id x.poll x.key x.frm = E) := ⟨hN, hE⟩
  have CP : Hid (Calls Try.prog 17 #[.pointer (some ⟨q, 0, none⟩), .int .i64 x.act, .int .i64 x.id, .agg x.pk.toArray, .int .u32 x.frm, .int .i64 x.now] W2 fun e w' => ∃ b, e = .returned (.tuple #[.int .i64 N, .int .i64 E]) ∧ Hid (PE q d B T (moT T x.act x.id x.poll x.key x.frm x.now b) K W2 w')) := by
    rw [← hN, ← hE]
    exact pMobilise q d B T K x.pk x.act x.id x.mode x.poll x.key x.frm x.now W2 HS.out.bt HH.out.2.1 HH.out.2.2.1 HX.out.1.pf HX.out.2
  clear hN hE
  go_upto_region 22 with (first
    | (go_at_call 17; refine CP.out.mono ?_; rintro e w3 ⟨b, rfl, HP⟩; have HS3 : Hid (Sb2 w w3 q d B (moT T x.act x.id x.poll x.key x.frm x.now b) (rowsOf T) g1 g2 cf x) := HS.out.go HP.out.1 HP.out.2.1)
    | (refine step_ldat 47 _ rfl rfl ⟨g2, 15, none⟩ (by rfl) x.pk _ Try.underlying47 rfl (by rw [HX.out.1.pf.len]; kernel_rfl) HPka.out ?_))
  clear CP c0 w213 w214 w232 w236
  have w313 : w3.cell? ⟨g2, 13, none⟩ = some (.int .i64 x.id) := by rw [HS3.out.at]; exact (sp_at HX.out.1).2.2.1
  have w314 : w3.cell? ⟨g2, 14, none⟩ = some (.int .i64 x.now) := by rw [HS3.out.at]; exact (sp_at HX.out.1).2.2.2.1
  have w332 : w3.cell? ⟨g2, 32, none⟩ = some (.int .u32 x.frm) := by rw [HS3.out.at]; exact (sp_at HX.out.1).2.2.2.2.2.1
  have w336 : w3.cell? ⟨g2, 36, none⟩ = some (.int .i64 x.act) := by rw [HS3.out.at]; exact (sp_at HX.out.1).2.2.2.2.2.2.2.2.2
  have HPkb : Hid (∀ j u, x.pk[j]? = some u → w3.cell? ((⟨g2, 15, none⟩ : Addr).add j) = some u) := HS3.out.pk HX.out.1
  have CR : Hid (Calls Try.prog 33 #[.pointer (some ⟨d, 0, none⟩), .int .i64 x.act, .int .i64 x.id, .agg x.pk.toArray, .int .u32 x.frm, .int .i64 x.now] w3 fun e w' => e = .returned (.tuple #[.int .i64 N, .int .i64 E]) ∧ Hid (RE q d B (moT T x.act x.id x.poll x.key x.frm x.now b) w3 w')) := by
    rw [← HNE.out.1, ← HNE.out.2]
    exact rMobilise q d B b T x.pk x.act x.id x.mode x.poll x.key x.frm x.now w3 HS3.out.bt HI.out.1 HI.out.2 HX.out.1.pf HX.out.2
  go_upto_region 23 with (first
    | (go_at_call 33; refine CR.out.mono ?_; rintro e w4 ⟨rfl, HR⟩)
    | (refine step_ldat 47 _ rfl rfl ⟨g2, 15, none⟩ (by rfl) x.pk _ Try.underlying47 rfl (by rw [HX.out.1.pf.len]; kernel_rfl) HPkb.out ?_))
  clear CR w313 w314 w332 w336
  go_wp2_with fail
  rw [hQ.out]
  go_ret
  exact ⟨rfl, _, HR.out.1, HS3.out.gf.trans HR.out.2, HP.out.2.2⟩
end Go.Proofs.Ytnjdmkgkpdebdaa
/- assoc: a step done at both tables. -/
namespace Go.Proofs.Ytnjdmkgkpdebdaa
open Go Go.RowKit Go.Sort
set_option linter.unusedVariables false
set_option maxRecDepth 20000 in
set_option maxHeartbeats 4000000 in
theorem does_1 (q d B : Nat) (T : List (Option Mb)) (K : Int) (cf : List Value) (av : Value) (ls mc : Bool) (x : Stp) (w : World) (h : Bt w q d B T (rowsOf T)) (ok : Ok T K) (hK0 : 0 ≤ K) (hK : K < 9223372036854775807) (hc : Cf cf av ls mc) (hx : okX x) (hk : x.k = 1) : Calls Try.prog 10 #[.pointer (some ⟨q, 0, none⟩), .pointer (some ⟨d, 0, none⟩), .agg cf.toArray, .agg (spC x).toArray] w fun e w' => e = .returned (.bool true) ∧ Hid (DE q d B K w w') := by
  have HH : Hid (Bt w q d B T (rowsOf T) ∧ Ok T K ∧ 0 ≤ K ∧ K < 9223372036854775807) := ⟨h, ok, hK0, hK⟩
  have HC : Hid (Cf cf av ls mc) := hc
  have HX : Hid (okX x ∧ -9223372036854775808 ≤ x.now) := ⟨hx, (wf64 hx.wn).1⟩
  have HI : Hid (T.length = 16 ∧ Ids T 0) := ⟨h.tb.len, h.tb.ids0⟩
  clear h ok hK0 hK hc hx
  go_enter Try.func10, Try.ntmps10
  refine post_hid fun Q hQ => ?_
  refine seq_hid fun R0 hR0 => ?_
  go_wp2_with (first
    | (refine step_boxL (by rfl) 29 _ rfl cf.toArray (by rfl) (fun u => by rfl) ?_; intro W1 g1 H1)
    | (refine step_boxL (by rfl) 49 _ rfl (spC x).toArray (by rfl) (fun u => by rfl) ?_; intro W2 g2 H2))
  rw [hR0.out]
  clear hR0
  have HS : Hid (Sb2 w W2 q d B T (rowsOf T) g1 g2 cf x) := by
    have hb := below_thru H1.out.be H2.out.be
    exact ⟨HH.out.1.below hb, Gf.of hb HH.out.1.hB, H2.out.other H1.out.bk, H2.out.bk⟩
  clear H1 H2
  have c0 : W2.cell? ⟨g2, 0, none⟩ = some (.int .i64 x.k) := by rw [HS.out.at]; exact (sp_at HX.out.1).1
  rw [hk] at c0
  have w213 : W2.cell? ⟨g2, 13, none⟩ = some (.int .i64 x.id) := by rw [HS.out.at]; exact (sp_at HX.out.1).2.2.1
  obtain ⟨D, hD⟩ : ∃ D, (atM T x.id).isSome = D := ⟨_, rfl⟩
  have HD : Hid ((atM T x.id).isSome = D) := hD
  have CP : Hid (∀ v2, Sb2 w v2 q d B T (rowsOf T) g1 g2 cf x → Calls Try.prog 21 #[.pointer (some ⟨q, 0, none⟩), .int .i64 x.id] v2 fun e w' => ∃ T', e = .returned (.bool D) ∧ Hid (Sb2 w w' q d B T' (rowsOf T) g1 g2 cf x ∧ Ok T' (K + 1) ∧ SpS T (fun i => (i : Int) + 1 = x.id) T')) := by
    rw [← hD]
    exact fun v2 hv => (pDrop q d B T x.id K v2 hv.bt HH.out.2.1).mono fun e w' ⟨T', h1, h2⟩ => ⟨T', h1, hv.go h2.out.1.1 h2.out.1.2.1, h2.out.1.2.2, h2.out.2⟩
  clear hD
  go_upto_region 7 with fail
  rename_i KK hKK
  have HKK : Hid _ := hKK
  clear hKK c0
  go_region_held3 (fun w' => w'.cell? ⟨g2, 13, none⟩ = some (.int .i64 x.id)) (first | with_reducible exact w213 | with_reducible exact w313 | with_reducible exact w413 | go_keep) (first
    | (go_at_call 21; refine Calls.mono (CP.out _ (HS.out.same rfl rfl rfl rfl)) ?_; rintro e w3 ⟨T', rfl, HP⟩; have HS3 : Hid (Sb2 w w3 q d B T' (rowsOf T) g1 g2 cf x) := HP.out.1; have w313 : w3.cell? ⟨g2, 13, none⟩ = some (.int .i64 x.id) := (by rw [HS3.out.at]; exact (sp_at HX.out.1).2.2.1); have CR : Hid (Calls Try.prog 25 #[.pointer (some ⟨d, 0, none⟩), .int .i64 x.id] w3 fun e w' => e = .returned (.bool D) ∧ Hid (RE q d B T' w3 w')) := (by rw [← HD.out]; exact rDrop q d B T T' x.id w3 HS3.out.bt HI.out.1 HI.out.2 HP.out.2.2))
    | (go_at_call 25; refine Calls.mono CR.out ?_; rintro e w4 ⟨rfl, HR⟩; have HS4 : Hid (Sb2 w w4 q d B T' (rowsOf T') g1 g2 cf x) := HS3.out.go HR.out.1 HR.out.2; have w413 : w4.cell? ⟨g2, 13, none⟩ = some (.int .i64 x.id) := (by rw [HS4.out.at]; exact (sp_at HX.out.1).2.2.1)))
  refine HKK.out _ _ ?_
  clear HKK
  go_wp2_with fail
  rw [hQ.out]
  go_ret
  exact ⟨rfl, T', HS4.out.bt, HS4.out.gf, HP.out.2.1⟩
end Go.Proofs.Ytnjdmkgkpdebdaa
/- assoc: a step done at both tables. -/
namespace Go.Proofs.Ytnjdmkgkpdebdaa
open Go Go.RowKit Go.Sort
set_option linter.unusedVariables false
set_option maxRecDepth 20000 in
set_option maxHeartbeats 4000000 in
theorem does_2 (q d B : Nat) (T : List (Option Mb)) (K : Int) (cf : List Value) (av : Value) (ls mc : Bool) (x : Stp) (w : World) (h : Bt w q d B T (rowsOf T)) (ok : Ok T K) (hK0 : 0 ≤ K) (hK : K < 9223372036854775807) (hc : Cf cf av ls mc) (hx : okX x) (hk : x.k = 2) : Calls Try.prog 10 #[.pointer (some ⟨q, 0, none⟩), .pointer (some ⟨d, 0, none⟩), .agg cf.toArray, .agg (spC x).toArray] w fun e w' => e = .returned (.bool true) ∧ Hid (DE q d B K w w') := by
  have HH : Hid (Bt w q d B T (rowsOf T) ∧ Ok T K ∧ 0 ≤ K ∧ K < 9223372036854775807) := ⟨h, ok, hK0, hK⟩
  have HC : Hid (Cf cf av ls mc) := hc
  have HX : Hid (okX x ∧ -9223372036854775808 ≤ x.now) := ⟨hx, (wf64 hx.wn).1⟩
  have HI : Hid (T.length = 16 ∧ Ids T 0) := ⟨h.tb.len, h.tb.ids0⟩
  clear h ok hK0 hK hc hx
  go_enter Try.func10, Try.ntmps10
  refine post_hid fun Q hQ => ?_
  refine seq_hid fun R0 hR0 => ?_
  go_wp2_with (first
    | (refine step_boxL (by rfl) 29 _ rfl cf.toArray (by rfl) (fun u => by rfl) ?_; intro W1 g1 H1)
    | (refine step_boxL (by rfl) 49 _ rfl (spC x).toArray (by rfl) (fun u => by rfl) ?_; intro W2 g2 H2))
  rw [hR0.out]
  clear hR0
  have HS : Hid (Sb2 w W2 q d B T (rowsOf T) g1 g2 cf x) := by
    have hb := below_thru H1.out.be H2.out.be
    exact ⟨HH.out.1.below hb, Gf.of hb HH.out.1.hB, H2.out.other H1.out.bk, H2.out.bk⟩
  clear H1 H2
  have c0 : W2.cell? ⟨g2, 0, none⟩ = some (.int .i64 x.k) := by rw [HS.out.at]; exact (sp_at HX.out.1).1
  rw [hk] at c0
  have w213 : W2.cell? ⟨g2, 13, none⟩ = some (.int .i64 x.id) := by rw [HS.out.at]; exact (sp_at HX.out.1).2.2.1
  have w214 : W2.cell? ⟨g2, 14, none⟩ = some (.int .i64 x.now) := by rw [HS.out.at]; exact (sp_at HX.out.1).2.2.2.1
  obtain ⟨D, hD⟩ : ∃ D, (atM T x.id).isSome = D := ⟨_, rfl⟩
  have HD : Hid ((atM T x.id).isSome = D) := hD
  have CP : Hid (∀ v2, Sb2 w v2 q d B T (rowsOf T) g1 g2 cf x → Calls Try.prog 26 #[.pointer (some ⟨q, 0, none⟩), .int .i64 x.id, .int .i64 x.now] v2 fun e w' => e = .returned (.bool D) ∧ Hid (Sb2 w w' q d B (heT T x.id x.now) (rowsOf T) g1 g2 cf x ∧ Ok (heT T x.id x.now) (K + 1))) := by
    rw [← hD]
    exact fun v2 hv => (pHeard q d B T x.id x.now K v2 hv.bt HH.out.2.1 HX.out.2).mono fun e w' ⟨h1, h2⟩ => ⟨h1, hv.go h2.out.1 h2.out.2.1, h2.out.2.2⟩
  clear hD
  go_upto_region 9 with fail
  rename_i KK hKK
  have HKK : Hid _ := hKK
  clear hKK c0
  go_region_held3 (fun w' => w'.cell? ⟨g2, 13, none⟩ = some (.int .i64 x.id) ∧ w'.cell? ⟨g2, 14, none⟩ = some (.int .i64 x.now)) (first | with_reducible exact ⟨w213, w214⟩ | with_reducible exact ⟨w313, w314⟩ | with_reducible exact ⟨w413, w414⟩ | go_keep) (first
    | (go_at_call 26; refine Calls.mono (CP.out _ (HS.out.same rfl rfl rfl rfl)) ?_; rintro e w3 ⟨rfl, HP⟩; have HS3 : Hid (Sb2 w w3 q d B (heT T x.id x.now) (rowsOf T) g1 g2 cf x) := HP.out.1; have w313 : w3.cell? ⟨g2, 13, none⟩ = some (.int .i64 x.id) := (by rw [HS3.out.at]; exact (sp_at HX.out.1).2.2.1); have w314 : w3.cell? ⟨g2, 14, none⟩ = some (.int .i64 x.now) := (by rw [HS3.out.at]; exact (sp_at HX.out.1).2.2.2.1); have CR : Hid (Calls Try.prog 27 #[.pointer (some ⟨d, 0, none⟩), .int .i64 x.id, .int .i64 x.now] w3 fun e w' => e = .returned (.bool D) ∧ Hid (RE q d B (heT T x.id x.now) w3 w')) := (by rw [← HD.out]; exact rHeard q d B T x.id x.now w3 HS3.out.bt HI.out.1 HI.out.2 HX.out.2))
    | (go_at_call 27; refine Calls.mono CR.out ?_; rintro e w4 ⟨rfl, HR⟩; have HS4 : Hid (Sb2 w w4 q d B (heT T x.id x.now) (rowsOf (heT T x.id x.now)) g1 g2 cf x) := HS3.out.go HR.out.1 HR.out.2; have w413 : w4.cell? ⟨g2, 13, none⟩ = some (.int .i64 x.id) := (by rw [HS4.out.at]; exact (sp_at HX.out.1).2.2.1); have w414 : w4.cell? ⟨g2, 14, none⟩ = some (.int .i64 x.now) := (by rw [HS4.out.at]; exact (sp_at HX.out.1).2.2.2.1)))
  refine HKK.out _ _ ?_
  clear HKK
  go_wp2_with fail
  rw [hQ.out]
  go_ret
  exact ⟨rfl, _, HS4.out.bt, HS4.out.gf, HP.out.2⟩
end Go.Proofs.Ytnjdmkgkpdebdaa
/- assoc: a step done at both tables. -/
namespace Go.Proofs.Ytnjdmkgkpdebdaa
open Go Go.RowKit Go.Sort
set_option linter.unusedVariables false
set_option maxRecDepth 20000 in
set_option maxHeartbeats 4000000 in
theorem does_7 (q d B : Nat) (T : List (Option Mb)) (K : Int) (cf : List Value) (av : Value) (ls mc : Bool) (x : Stp) (w : World) (h : Bt w q d B T (rowsOf T)) (ok : Ok T K) (hK0 : 0 ≤ K) (hK : K < 9223372036854775807) (hc : Cf cf av ls mc) (hx : okX x) (hk : x.k = 7) : Calls Try.prog 10 #[.pointer (some ⟨q, 0, none⟩), .pointer (some ⟨d, 0, none⟩), .agg cf.toArray, .agg (spC x).toArray] w fun e w' => e = .returned (.bool true) ∧ Hid (DE q d B K w w') := by
  have HH : Hid (Bt w q d B T (rowsOf T) ∧ Ok T K ∧ 0 ≤ K ∧ K < 9223372036854775807) := ⟨h, ok, hK0, hK⟩
  have HC : Hid (Cf cf av ls mc) := hc
  have HX : Hid (okX x ∧ -9223372036854775808 ≤ x.now) := ⟨hx, (wf64 hx.wn).1⟩
  have HI : Hid (T.length = 16 ∧ Ids T 0) := ⟨h.tb.len, h.tb.ids0⟩
  clear h ok hK0 hK hc hx
  go_enter Try.func10, Try.ntmps10
  refine post_hid fun Q hQ => ?_
  refine seq_hid fun R0 hR0 => ?_
  go_wp2_with (first
    | (refine step_boxL (by rfl) 29 _ rfl cf.toArray (by rfl) (fun u => by rfl) ?_; intro W1 g1 H1)
    | (refine step_boxL (by rfl) 49 _ rfl (spC x).toArray (by rfl) (fun u => by rfl) ?_; intro W2 g2 H2))
  rw [hR0.out]
  clear hR0
  have HS : Hid (Sb2 w W2 q d B T (rowsOf T) g1 g2 cf x) := by
    have hb := below_thru H1.out.be H2.out.be
    exact ⟨HH.out.1.below hb, Gf.of hb HH.out.1.hB, H2.out.other H1.out.bk, H2.out.bk⟩
  clear H1 H2
  have c0 : W2.cell? ⟨g2, 0, none⟩ = some (.int .i64 x.k) := by rw [HS.out.at]; exact (sp_at HX.out.1).1
  rw [hk] at c0
  have w232 : W2.cell? ⟨g2, 32, none⟩ = some (.int .u32 x.frm) := by rw [HS.out.at]; exact (sp_at HX.out.1).2.2.2.2.2.1
  obtain ⟨D, hD⟩ : ∃ D, fsF (nkP x.frm false) T = D := ⟨_, rfl⟩
  have HD : Hid (fsF (nkP x.frm false) T = D) := hD
  have CP : Hid (∀ v2, Sb2 w v2 q d B T (rowsOf T) g1 g2 cf x → Calls Try.prog 34 #[.pointer (some ⟨q, 0, none⟩), .int .u32 x.frm] v2 fun e w' => e = .returned (.int .i64 D) ∧ Hid (Sb2 w w' q d B T (rowsOf T) g1 g2 cf x ∧ Ok T (K + 1))) := by
    rw [← hD]
    exact fun v2 hv => (pFind q d B T K x.frm v2 hv.bt HH.out.2.1).mono fun e w' ⟨h1, h2⟩ => ⟨h1, hv.go h2.out.1 h2.out.2.1, h2.out.2.2⟩
  clear hD
  go_upto_region 25 with fail
  rename_i KK hKK
  have HKK : Hid _ := hKK
  clear hKK c0
  go_region_held3 (fun w' => w'.cell? ⟨g2, 32, none⟩ = some (.int .u32 x.frm)) (first | with_reducible exact w232 | with_reducible exact w332 | with_reducible exact w432 | go_keep) (first
    | (go_at_call 34; refine Calls.mono (CP.out _ (HS.out.same rfl rfl rfl rfl)) ?_; rintro e w3 ⟨rfl, HP⟩; have HS3 : Hid (Sb2 w w3 q d B T (rowsOf T) g1 g2 cf x) := HP.out.1; have w332 : w3.cell? ⟨g2, 32, none⟩ = some (.int .u32 x.frm) := (by rw [HS3.out.at]; exact (sp_at HX.out.1).2.2.2.2.2.1); have CR : Hid (Calls Try.prog 35 #[.pointer (some ⟨d, 0, none⟩), .int .u32 x.frm] w3 fun e w' => e = .returned (.int .i64 D) ∧ Hid (RE q d B T w3 w')) := (by rw [← HD.out]; exact rFind q d B T x.frm w3 HS3.out.bt))
    | (go_at_call 35; refine Calls.mono CR.out ?_; rintro e w4 ⟨rfl, HR⟩; have HS4 : Hid (Sb2 w w4 q d B T (rowsOf T) g1 g2 cf x) := HS3.out.go HR.out.1 HR.out.2; have w432 : w4.cell? ⟨g2, 32, none⟩ = some (.int .u32 x.frm) := (by rw [HS4.out.at]; exact (sp_at HX.out.1).2.2.2.2.2.1)))
  refine HKK.out _ _ ?_
  clear HKK
  go_wp2_with fail
  rw [hQ.out]
  go_ret
  exact ⟨rfl, _, HS4.out.bt, HS4.out.gf, HP.out.2⟩
end Go.Proofs.Ytnjdmkgkpdebdaa
/- assoc: a step done at both tables. -/
namespace Go.Proofs.Ytnjdmkgkpdebdaa
open Go Go.RowKit Go.Sort
set_option linter.unusedVariables false
set_option maxRecDepth 20000 in
set_option maxHeartbeats 4000000 in
theorem does_3 (q d B : Nat) (T : List (Option Mb)) (K : Int) (cf : List Value) (av : Value) (ls mc : Bool) (x : Stp) (w : World) (h : Bt w q d B T (rowsOf T)) (ok : Ok T K) (hK0 : 0 ≤ K) (hK : K < 9223372036854775807) (hc : Cf cf av ls mc) (hx : okX x) (hk : x.k = 3) : Calls Try.prog 10 #[.pointer (some ⟨q, 0, none⟩), .pointer (some ⟨d, 0, none⟩), .agg cf.toArray, .agg (spC x).toArray] w fun e w' => e = .returned (.bool true) ∧ Hid (DE q d B K w w') := by
  have HH : Hid (Bt w q d B T (rowsOf T) ∧ Ok T K ∧ 0 ≤ K ∧ K < 9223372036854775807) := ⟨h, ok, hK0, hK⟩
  have HC : Hid (Cf cf av ls mc) := hc
  have HX : Hid (okX x ∧ -9223372036854775808 ≤ x.now) := ⟨hx, (wf64 hx.wn).1⟩
  have HI : Hid (T.length = 16 ∧ Ids T 0) := ⟨h.tb.len, h.tb.ids0⟩
  clear h ok hK0 hK hc hx
  go_enter Try.func10, Try.ntmps10
  refine post_hid fun Q hQ => ?_
  refine seq_hid fun R0 hR0 => ?_
  go_wp2_with (first
    | (refine step_boxL (by rfl) 29 _ rfl cf.toArray (by rfl) (fun u => by rfl) ?_; intro W1 g1 H1)
    | (refine step_boxL (by rfl) 49 _ rfl (spC x).toArray (by rfl) (fun u => by rfl) ?_; intro W2 g2 H2))
  rw [hR0.out]
  clear hR0
  have HS : Hid (Sb2 w W2 q d B T (rowsOf T) g1 g2 cf x) := by
    have hb := below_thru H1.out.be H2.out.be
    exact ⟨HH.out.1.below hb, Gf.of hb HH.out.1.hB, H2.out.other H1.out.bk, H2.out.bk⟩
  clear H1 H2
  have c0 : W2.cell? ⟨g2, 0, none⟩ = some (.int .i64 x.k) := by rw [HS.out.at]; exact (sp_at HX.out.1).1
  rw [hk] at c0
  have w214 : W2.cell? ⟨g2, 14, none⟩ = some (.int .i64 x.now) := by rw [HS.out.at]; exact (sp_at HX.out.1).2.2.2.1
  have HD : Hid ((0 : Int) = 0) := rfl
  have CP : Hid (∀ v2, Sb2 w v2 q d B T (rowsOf T) g1 g2 cf x → Calls Try.prog 16 #[.pointer (some ⟨q, 0, none⟩), .int .i64 x.now] v2 fun e w' => ∃ T' v, e = .returned v ∧ Hid (Sb2 w w' q d B T' (rowsOf T) g1 g2 cf x ∧ Ok T' (K + 1) ∧ SpS T (exS T x.now) T' ∧ OR w' B 3 1 v (intL (gnF T T' 0)))) := fun v2 hv => (pExpire q d B T x.now K v2 hv.bt HH.out.2.1).mono fun e w' ⟨T', v, h1, h2⟩ => ⟨T', v, h1, hv.go h2.out.1.1 h2.out.1.2.1, h2.out.1.2.2, h2.out.2⟩
  go_upto_region 11 with fail
  rename_i KK hKK
  have HKK : Hid _ := hKK
  clear hKK c0
  go_region_held3 (fun w' => w'.cell? ⟨g2, 14, none⟩ = some (.int .i64 x.now)) (first | with_reducible exact w214 | with_reducible exact w314 | with_reducible exact w414 | with_reducible exact w514 | go_keep) (first
    | (go_at_call 16; refine Calls.mono (CP.out _ (HS.out.same rfl rfl rfl rfl)) ?_; rintro e w3 ⟨T', v, rfl, HP⟩; have HS3 : Hid (Sb2 w w3 q d B T' (rowsOf T) g1 g2 cf x) := HP.out.1; have w314 : w3.cell? ⟨g2, 14, none⟩ = some (.int .i64 x.now) := (by rw [HS3.out.at]; exact (sp_at HX.out.1).2.2.2.1); have CR : Hid (Calls Try.prog 29 #[.pointer (some ⟨d, 0, none⟩), .int .i64 x.now] w3 fun e w' => ∃ u, e = .returned u ∧ Hid (RE q d B T' w3 w' ∧ OR w' B 3 1 u (intL (gnF T T' 0)))) := (by exact rExpire q d B T T' x.now w3 HS3.out.bt HI.out.1 HI.out.2 HP.out.2.2.1))
    | (go_at_call 29; refine Calls.mono CR.out ?_; rintro e w4 ⟨u, rfl, HR⟩; have HS4 : Hid (Sb2 w w4 q d B T' (rowsOf T') g1 g2 cf x) := HS3.out.go HR.out.1.1 HR.out.1.2; have w414 : w4.cell? ⟨g2, 14, none⟩ = some (.int .i64 x.now) := (by rw [HS4.out.at]; exact (sp_at HX.out.1).2.2.2.1); have CI : Hid (Calls Try.prog 28 #[v, u] w4 fun e w' => e = .returned (.bool true) ∧ Below w4.heap.size w4 w') := ints_any v u (gnF T T' 0) w4 w4.heap.size (Nat.le_refl _) (HP.out.2.2.2.keep (fun b hb => by obtain ⟨_, cur, hc⟩ := HP.out.2.2.2.tys b hb; exact (HR.out.1.2.bk hc (by decide)).trans hc.symm)).rk HR.out.2.rk (by have := gn_len T T' 0; have := HI.out.1; omega))
    | (go_at_call 28; refine Calls.mono CI.out ?_; rintro e w5 ⟨rfl, hb5⟩; have HS5 : Hid (Sb2 w w5 q d B T' (rowsOf T') g1 g2 cf x) := HS4.out.go (HS4.out.bt.below hb5) (Gf.of hb5 HS4.out.bt.hB); have w514 : w5.cell? ⟨g2, 14, none⟩ = some (.int .i64 x.now) := (by rw [HS5.out.at]; exact (sp_at HX.out.1).2.2.2.1); clear hb5))
  refine HKK.out _ _ ?_
  clear HKK
  go_wp2_with fail
  rw [hQ.out]
  go_ret
  exact ⟨rfl, T', HS5.out.bt, HS5.out.gf, HP.out.2.1⟩
end Go.Proofs.Ytnjdmkgkpdebdaa
/- assoc: a step done at both tables. -/
namespace Go.Proofs.Ytnjdmkgkpdebdaa
open Go Go.RowKit Go.Sort
set_option linter.unusedVariables false
set_option maxRecDepth 20000 in
set_option maxHeartbeats 4000000 in
theorem does_x (q d B : Nat) (T : List (Option Mb)) (K : Int) (cf : List Value) (av : Value) (ls mc : Bool) (x : Stp) (w : World) (h : Bt w q d B T (rowsOf T)) (ok : Ok T K) (hK0 : 0 ≤ K) (hK : K < 9223372036854775807) (hc : Cf cf av ls mc) (hx : okX x) (k0 : ¬ x.k = 0) (k1 : ¬ x.k = 1) (k2 : ¬ x.k = 2) (k3 : ¬ x.k = 3) (k4 : ¬ x.k = 4) (k5 : ¬ x.k = 5) (k6 : ¬ x.k = 6) (k7 : ¬ x.k = 7) : Calls Try.prog 10 #[.pointer (some ⟨q, 0, none⟩), .pointer (some ⟨d, 0, none⟩), .agg cf.toArray, .agg (spC x).toArray] w fun e w' => e = .returned (.bool true) ∧ Hid (DE q d B K w w') := by
  have HH : Hid (Bt w q d B T (rowsOf T) ∧ Ok T K ∧ 0 ≤ K ∧ K < 9223372036854775807) := ⟨h, ok, hK0, hK⟩
  have HC : Hid (Cf cf av ls mc) := hc
  have HX : Hid (okX x ∧ -9223372036854775808 ≤ x.now) := ⟨hx, (wf64 hx.wn).1⟩
  have HI : Hid (T.length = 16 ∧ Ids T 0) := ⟨h.tb.len, h.tb.ids0⟩
  clear h ok hK0 hK hc hx
  go_enter Try.func10, Try.ntmps10
  refine post_hid fun Q hQ => ?_
  refine seq_hid fun R0 hR0 => ?_
  go_wp2_with (first
    | (refine step_boxL (by rfl) 29 _ rfl cf.toArray (by rfl) (fun u => by rfl) ?_; intro W1 g1 H1)
    | (refine step_boxL (by rfl) 49 _ rfl (spC x).toArray (by rfl) (fun u => by rfl) ?_; intro W2 g2 H2))
  rw [hR0.out]
  clear hR0
  have HS : Hid (Sb2 w W2 q d B T (rowsOf T) g1 g2 cf x) := by
    have hb := below_thru H1.out.be H2.out.be
    exact ⟨HH.out.1.below hb, Gf.of hb HH.out.1.hB, H2.out.other H1.out.bk, H2.out.bk⟩
  clear H1 H2
  have c0 : W2.cell? ⟨g2, 0, none⟩ = some (.int .i64 x.k) := by rw [HS.out.at]; exact (sp_at HX.out.1).1
  have hk0 : (x.k == 0) = false := by simpa using k0
  have hk1 : (x.k == 1) = false := by simpa using k1
  have hk2 : (x.k == 2) = false := by simpa using k2
  have hk3 : (x.k == 3) = false := by simpa using k3
  have hk4 : (x.k == 4) = false := by simpa using k4
  have hk5 : (x.k == 5) = false := by simpa using k5
  have hk6 : (x.k == 6) = false := by simpa using k6
  have hk7 : (x.k == 7) = false := by simpa using k7
  go_wp2_with fail
  rw [hQ.out]
  go_ret
  exact ⟨rfl, T, HS.out.bt, HS.out.gf, HH.out.2.1.up (by omega)⟩
end Go.Proofs.Ytnjdmkgkpdebdaa
/- assoc: AssocScript. -/
namespace Go.Proofs.Ytnjdmkgkpdebdaa
open Go Go.RowKit Go.Sort
set_option linter.unusedVariables false
theorem does_any (q d B : Nat) (T : List (Option Mb)) (K : Int) (cf : List Value) (av : Value) (ls mc : Bool) (x : Stp) (w : World) (h : Bt w q d B T (rowsOf T)) (ok : Ok T K) (hK0 : 0 ≤ K) (hK : K < 9223372036854775807) (hc : Cf cf av ls mc) (hx : okX x) : Calls Try.prog 10 #[.pointer (some ⟨q, 0, none⟩), .pointer (some ⟨d, 0, none⟩), .agg cf.toArray, .agg (spC x).toArray] w fun e w' => e = .returned (.bool true) ∧ Hid (DE q d B K w w') := by
  by_cases k0 : x.k = 0
  · exact does_0 q d B T K cf av ls mc x w h ok hK0 hK hc hx k0
  by_cases k1 : x.k = 1
  · exact does_1 q d B T K cf av ls mc x w h ok hK0 hK hc hx k1
  by_cases k2 : x.k = 2
  · exact does_2 q d B T K cf av ls mc x w h ok hK0 hK hc hx k2
  by_cases k3 : x.k = 3
  · exact does_3 q d B T K cf av ls mc x w h ok hK0 hK hc hx k3
  by_cases k4 : x.k = 4
  · exact does_4 q d B T K cf av ls mc x w h ok hK0 hK hc hx k4
  by_cases k5 : x.k = 5
  · exact does_5 q d B T K cf av ls mc x w h ok hK0 hK hc hx k5
  by_cases k6 : x.k = 6
  · exact does_6 q d B T K cf av ls mc x w h ok hK0 hK hc hx k6
  by_cases k7 : x.k = 7
  · exact does_7 q d B T K cf av ls mc x w h ok hK0 hK hc hx k7
  · exact does_x q d B T K cf av ls mc x w h ok hK0 hK hc hx k0 k1 k2 k3 k4 k5 k6 k7
theorem rows_map (f g : Nat → Option Mb) (h : ∀ i, (f i).map mbL = (g i).map mbL) : ∀ l : List Nat, (rowsOf (l.map f)).map mbL = (rowsOf (l.map g)).map mbL
  | [] => rfl
  | i :: t => by
    have ih := rows_map f g h t
    have hi := h i
    rw [List.map_cons, List.map_cons]
    unfold rowsOf at ih ⊢
    cases hf : f i with
    | none =>
      cases hg : g i with
      | none => simpa using ih
      | some b => rw [hf, hg] at hi; cases hi
    | some a =>
      cases hg : g i with
      | none => rw [hf, hg] at hi; cases hi
      | some b =>
        rw [hf, hg] at hi
        simp only [Option.map_some, Option.some.injEq] at hi
        simp only [List.filterMap_cons, List.map_cons]
        rw [hi, ih]
theorem tb_rows (xs : List As) (bs : Nat → Nat) : (rowsOf (tbL xs bs)).map mbL = (rnL xs).map mbL := by
  unfold rnL tbL
  refine rows_map _ _ (fun i => ?_) _
  cases xs[i]? <;> rfl
theorem Rt.mono {w : World} {d B B' : Nat} {l : List Mb} (h : Rt w d B l) (hb : B' ≤ B) : Rt w d B' l := by
  obtain ⟨v, h1, h2, h3⟩ := h.ex
  exact ⟨⟨v, h1, h2.mono hb, h3⟩, h.len⟩
theorem Ok.tb (xs : List As) (bs : Nat → Nat) (h : kWf (tbL xs bs)) : Ok (tbL xs bs) 0 := ⟨h, fun i m hm => by
  obtain ⟨_, a, _, e⟩ := tb_some hm
  rw [e]
  exact ⟨Int.le_refl _, Int.le_refl _⟩⟩
set_option maxRecDepth 20000 in
set_option maxHeartbeats 4000000 in
theorem AssocScript_row (cf : List Value) (sv : Value) (xs : List As) (ls mc : Bool) (ss : List Stp) (w : World) (hc : Cx w.heap.size w cf xs ls mc) (hs : Sx w.heap.size w sv ss) :
    Calls Try.prog 3 #[.agg cf.toArray, sv] w fun e w' => e = .returned (.bool true) ∧ Below w.heap.size w w' := by
  obtain ⟨av, hcf, hrk⟩ := hc.fm
  have HC : Hid (Cf cf av ls mc ∧ Rk w.heap.size w 12 av (xs.map asL) ∧ ∀ a ∈ xs, (Lit.int .i64 a.kind).wf = true) := ⟨hcf, hrk, hc.wk⟩
  obtain ⟨⟨ao, cap, hsv, hrow⟩, hok, hlen⟩ := hs
  obtain ⟨L, hL⟩ : ∃ L, ss.length = L := ⟨_, rfl⟩
  rw [hL] at hsv hlen
  subst hsv
  have HS : Hid ((∀ (k : Nat) (x : Stp), ss[k]? = some x → ∃ ad, ao = some ad ∧ ad.block < w.heap.size ∧ ∀ j u, (spC x)[j]? = some u → w.cell? ((ad.add (k * 37)).add j) = some u) ∧ (∀ x ∈ ss, okX x) ∧ ss.length = L) := ⟨hrow, hok, hL⟩
  clear hc hcf hrk hrow hok hL
  go_enter Try.func3, Try.ntmps3
  refine post_hid fun Q hQ => ?_
  refine seq_hid fun R hR => ?_
  go_wp2_with (refine step_boxL (by rfl) 29 _ rfl cf.toArray (by rfl) (fun u => by rfl) ?_; intro W1 gc H1)
  rw [hR.out]
  clear hR
  have H3 : Hid (Bk gc W1 cf.toArray 29 ∧ Below w.heap.size w W1) := ⟨H1.out.bk, H1.out.be⟩
  clear H1
  refine seq_hid fun R hR => ?_
  go_wp2_with (go_at_call 7; refine (shown_any W1).mono ?_; rintro e w1 ⟨rfl, hb1⟩; have H4 : Hid (Bk gc w1 cf.toArray 29 ∧ Below w.heap.size w w1) := ⟨H3.out.1.kept (hb1.block _ H3.out.1.lt), below_thru H3.out.2 hb1⟩; clear hb1)
  rw [hR.out]
  clear hR H3
  have HCc : Hid (∀ j u, cf[j]? = some u → w1.cell? ((⟨gc, 0, none⟩ : Addr).add j) = some u) := cells_of H4.out.1
  have HLc : Hid ((Try.prog.info? 29).map (·.size) = some cf.length) := by show _ = _; rw [HC.out.1.len]; kernel_rfl
  have HN : Hid (Calls Try.prog 8 #[.agg cf.toArray] w1 fun e w' => NwR w1 w' xs e ∧ Below w1.heap.size w1 w') := new_any cf av ls mc xs w1 HC.out.1 ((HC.out.2.1.below H4.out.2 (Nat.le_refl _)).mono H4.out.2.size)
  have HRn : Hid (∀ u, Below w1.heap.size w1 u → Calls Try.prog 9 #[.agg cf.toArray] u fun e w' => ((nwE xs ≠ 0 ∧ e = .returned (.tuple #[.pointer none, .int .i64 (nwE xs)])) ∨ (nwE xs = 0 ∧ ∃ d, e = .returned (.tuple #[.pointer (some ⟨d, 0, none⟩), .int .i64 0]) ∧ Rt w' d u.heap.size (rnL xs) ∧ u.heap.size ≤ d)) ∧ Below u.heap.size u w') := fun u hu => rnew_any cf av ls mc xs u HC.out.1 (by
    have hb := below_thru H4.out.2 hu
    exact (HC.out.2.1.below hb (Nat.le_refl _)).mono hb.size)
  go_upto_region 4 with (first
    | (refine step_ldat 29 _ rfl rfl ⟨gc, 0, none⟩ (by rfl) cf _ Try.underlying29 rfl HLc.out HCc.out ?_)
    | (go_at_call 8; refine HN.out.mono ?_; rintro e w2 ⟨h2, hb2⟩; have H5 : Hid (Below w1.heap.size w1 w2 ∧ Bk gc w2 cf.toArray 29) := ⟨hb2, H4.out.1.kept (hb2.block _ H4.out.1.lt)⟩; clear hb2; rcases h2 with ⟨hz, rfl⟩ | ⟨hz, q, bs, rfl, h2⟩))
  · have HCd : Hid (∀ j u, cf[j]? = some u → w2.cell? ((⟨gc, 0, none⟩ : Addr).add j) = some u) := cells_of H5.out.2
    obtain ⟨E, hE⟩ : ∃ E, nwE xs = E := ⟨_, rfl⟩
    have HE : Hid (nwE xs = E ∧ E ≠ 0) := ⟨hE, by rw [← hE]; exact hz⟩
    have CR : Hid (Calls Try.prog 9 #[.agg cf.toArray] w2 fun e w' => e = .returned (.tuple #[.pointer none, .int .i64 E]) ∧ Below w2.heap.size w2 w') := (HRn.out w2 H5.out.1).mono fun e w' ⟨h1, h2⟩ => by
      rcases h1 with ⟨k1, k2⟩ | ⟨k1, _⟩
      · exact ⟨by rw [k2, HE.out.1], h2⟩
      · exact absurd (HE.out.1.symm.trans k1) HE.out.2
    rw [hE]
    clear hE hz HN HRn
    go_wp2_with (first
      | (refine step_ldat 29 _ rfl rfl ⟨gc, 0, none⟩ (by rfl) cf _ Try.underlying29 rfl HLc.out HCd.out ?_)
      | (go_at_call 9; refine CR.out.mono ?_; rintro e w3 ⟨rfl, hb3⟩))
    rw [hQ.out]
    go_ret
    exact ⟨rfl, below_thru H4.out.2 (below_thru H5.out.1 hb3)⟩
  have HCd : Hid (∀ j u, cf[j]? = some u → w2.cell? ((⟨gc, 0, none⟩ : Addr).add j) = some u) := cells_of H5.out.2
  have HZ : Hid (nwE xs = 0) := hz
  have CR : Hid (Calls Try.prog 9 #[.agg cf.toArray] w2 fun e w' => ∃ d, e = .returned (.tuple #[.pointer (some ⟨d, 0, none⟩), .int .i64 0]) ∧ Hid (Rt w' d w2.heap.size (rnL xs) ∧ w2.heap.size ≤ d ∧ Below w2.heap.size w2 w')) := (HRn.out w2 H5.out.1).mono fun e w' ⟨h1, h2⟩ => by
    rcases h1 with ⟨k1, k2⟩ | ⟨k1, d, k2, k3, k4⟩
    · exact absurd HZ.out k1
    · exact ⟨d, k2, k3, k4, h2⟩
  have H6 : Hid (Tw w w2 q (tbL xs bs) [(gc, cf, 29)]) := Tw.of h2 H4.out.2 HC.out.2.2 fun x hx => by
    simp only [List.mem_cons, List.not_mem_nil, or_false] at hx
    rcases hx with rfl
    exact H4.out.1
  clear h2 hz HN HRn HCc
  have hL2 : (L : Int) ≤ 9223372036854775807 := by omega
  go_wp2_with (first
    | (refine step_ldat 29 _ rfl rfl ⟨gc, 0, none⟩ (by rfl) cf _ Try.underlying29 rfl HLc.out HCd.out ?_)
    | (go_at_call 9; refine CR.out.mono ?_; rintro e w3 ⟨d, rfl, H7⟩))
  have H8 : Hid (Bt w3 q d w.heap.size (tbL xs bs) (rowsOf (tbL xs bs)) ∧ Ok (tbL xs bs) ((0 : Nat) : Int) ∧ Below w.heap.size w w3 ∧ Bk gc w3 cf.toArray 29) := by
    have hb := H7.out.2.2
    have hs := H6.out.be.size
    refine ⟨⟨H6.out.tb.below hb, (H7.out.1.mono hs).rgrown (w' := w3) (tb_rows xs bs), Nat.le_trans hs hb.size, H6.out.hq, Nat.le_trans hs H7.out.2.1, H6.out.hm⟩, Ok.tb xs bs H6.out.kw, below_thru H6.out.be hb, H5.out.2.kept (hb.block _ H5.out.2.lt)⟩
  clear H4 H5 H6 H7 CR HCd
  go_loopw [37] (fun i wr => ∃ (k : Nat) (T : List (Option Mb)), i = .int .i64 k ∧ (k : Int) ≤ L ∧ Hid (Bt wr q d w.heap.size T (rowsOf T) ∧ Ok T (k : Int) ∧ Below w.heap.size w wr ∧ Bk gc wr cf.toArray 29)) (fun i _ => L - (intOf i).toNat)
  case atStart => exact ⟨0, tbL xs bs, rfl, by omega, H8⟩
  case round =>
    obtain ⟨k, T, rfl, hk, HI⟩ := hrel
    clear H8
    by_cases hlt : (k : Int) < L
    · have hkl : k < ss.length := by rw [HS.out.2.2]; omega
      obtain ⟨x, hx⟩ : ∃ x, x = ss[k] := ⟨_, rfl⟩
      have hxk : ss[k]? = some x := by rw [List.getElem?_eq_getElem hkl, hx]
      obtain ⟨ad, g1', g2', g3'⟩ := HS.out.1 k x hxk
      have OK : Hid (okX x) := HS.out.2.1 x (List.mem_of_getElem? hxk)
      have hix := ix_sp L cap k g1' hlt
      have HX : Hid (∀ j u, (spC x)[j]? = some u → wr.cell? ((ad.add (k * 37)).add j) = some u) := fun j u hu => by
        rw [HI.out.2.2.1.cell (p := (ad.add (k * 37)).add j) (by rw [add_block, add_block]; exact g2')]
        exact g3' j u hu
      have HZ : Hid ((Try.prog.info? 49).map (·.size) = some (spC x).length) := sp_size OK.out
      clear g1' g2' g3' hx hxk hkl
      go_upto_region 12 with (first
        | (refine step_ldat 49 _ rfl rfl (ad.add (k * 37)) (by rfl) (spC x) _ Try.underlying49 rfl HZ.out HX.out ?_)
        | (refine step_alL (by rfl) 49 rfl (spC spZ).toArray (fun u => by kernel_rfl) ?_; intro w4 g H4)
        | (refine step_stL (by rfl) _ _ rfl g (spC x).toArray (by rfl) (by rfl) (spC spZ).toArray (sp_size OK.out) (sp_size2 OK.out) (sp_one OK.out) H4.out.bk ?_; intro w5 H5))
      have H6 : Hid (Bt w5 q d w.heap.size T (rowsOf T) ∧ Below w.heap.size w w5 ∧ Bk gc w5 cf.toArray 29 ∧ Bk g w5 (spC x).toArray 49) := by
        have hb := H5.out.below H4.out.be H4.out.be.size (Nat.le_of_eq H4.out.at'.symm)
        exact ⟨HI.out.1.below hb, below_thru HI.out.2.2.1 hb, HI.out.2.2.2.kept (hb.block _ HI.out.2.2.2.lt), H5.out.bk⟩
      have CD : Hid (Calls Try.prog 10 #[.pointer (some ⟨q, 0, none⟩), .pointer (some ⟨d, 0, none⟩), .agg cf.toArray, .agg (spC x).toArray] w5 fun e w' => e = .returned (.bool true) ∧ Hid (DE q d w.heap.size (k : Int) w5 w')) := does_any q d w.heap.size T k cf av ls mc x w5 H6.out.1 HI.out.2.1 (by omega) (by omega) HC.out.1 OK.out
      have HA1 : Hid (∀ j u, cf[j]? = some u → w5.cell? ((⟨gc, 0, none⟩ : Addr).add j) = some u) := cells_of H6.out.2.2.1
      have HA2 : Hid (∀ j u, (spC x)[j]? = some u → w5.cell? ((⟨g, 0, none⟩ : Addr).add j) = some u) := cells_of H6.out.2.2.2
      have L1 : (k : Int) + 1 ≤ 9223372036854775807 := by omega
      clear H4 H5 HI HX hix
      go_wp2_with (first
        | (refine step_ldat 29 _ rfl rfl ⟨gc, 0, none⟩ (by rfl) cf _ Try.underlying29 rfl HLc.out HA1.out ?_)
        | (refine step_ldat 49 _ rfl rfl ⟨g, 0, none⟩ (by rfl) (spC x) _ Try.underlying49 rfl HZ.out HA2.out ?_)
        | (go_at_call 10; refine CD.out.mono ?_; rintro e w6 ⟨rfl, HD⟩; obtain ⟨T', t1, t2, t3⟩ := HD.out; have H7 : Hid (Bt w6 q d w.heap.size T' (rowsOf T') ∧ Gf w5 w6 w.heap.size ∧ Ok T' ((k : Int) + 1)) := ⟨t1, t2, t3⟩; have CT : Hid (Calls Try.prog 11 #[.pointer (some ⟨q, 0, none⟩), .pointer (some ⟨d, 0, none⟩)] w6 fun e w' => e = .returned (.bool true) ∧ Below w6.heap.size w6 w') := told_any q d w.heap.size T' w6 t1; clear t1 t2 t3)
        | (go_at_call 11; refine CT.out.mono ?_; rintro e w7 ⟨rfl, hb7⟩))
      go_roundw
      case rel =>
        refine ⟨k + 1, T', by go_num, by omega, ⟨H7.out.1.below hb7, ?_, ((H6.out.2.1).trans H7.out.2.1.be).trans (hb7.mono (Nat.le_trans H6.out.2.1.size H7.out.2.1.be.size)), ?_⟩⟩
        · have e : ((k + 1 : Nat) : Int) = (k : Int) + 1 := by omega
          rw [e]
          exact H7.out.2.2
        · have hk := H7.out.2.1.bk H6.out.2.2.1 (by decide)
          exact hk.kept (hb7.block _ hk.lt)
      case measure => simp [intOf]; omega
    · have CT : Hid (Calls Try.prog 11 #[.pointer (some ⟨q, 0, none⟩), .pointer (some ⟨d, 0, none⟩)] wr fun e w' => e = .returned (.bool true) ∧ Below wr.heap.size wr w') := told_any q d w.heap.size T wr HI.out.1
      go_wp2_with (go_at_call 11; refine CT.out.mono ?_; rintro e w7 ⟨rfl, hb7⟩)
      rw [hQ.out]
      go_ret
      exact ⟨rfl, below_thru HI.out.2.2.1 hb7⟩
end Go.Proofs.Ytnjdmkgkpdebdaa
