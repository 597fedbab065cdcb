/- RestrictMemory: both memories side by side. -/
import Derived.Test.YtmgphfdieekpdaaME
namespace Go.Proofs.Ytmgphfdieekpdaa
open Go Go.RowKit
theorem OR.kept {w w' : World} {B : Nat} {e : TypeId} {k : Nat} {v : Value} {rows : List (List Value)} (h : OR w B e k v rows) (hk : ∀ q, v.ownBlock = some q → w'.heap[q]? = w.heap[q]?) : OR w' B e k v rows := by
  refine ⟨⟨h.row.1, ?_⟩, h.len⟩
  rcases h.row.2 with h1 | ⟨g, cap, cells, hv, hB, hh, h2⟩
  · exact .inl h1
  · exact .inr ⟨g, cap, cells, hv, hB, by rw [hk g (by rw [hv]; rfl)]; exact hh, h2⟩
theorem Rm.fm {w w' : World} {B h g : Nat} {lv sv : Value} {av mn now : Int} {any : Bool} {ss : List Sn} (hR : Rm w B h lv av mn now any ss) (hf : Fm w w' g sv) (h1 : h ≠ g) (h2 : sv.ownBlock ≠ some h) (h3 : lv.ownBlock ≠ some g) (h4 : ∀ q, lv.ownBlock = some q → sv.ownBlock ≠ some q) : Rm w' B h lv av mn now any ss :=
  ⟨hR.blk.kept (hf.block _ hR.blk.lt h1 h2), hR.row.kept (fun q hq => hf.block q (hR.row.row.lt q hq).2 (fun e => h3 (e ▸ hq)) (h4 q hq)), hR.low⟩
theorem Mm.fm {w w' : World} {B h g : Nat} {lv sv : Value} {cost mn now t : Int} {xs : List Sn} (hM : Mm w B g sv cost mn now t xs) (hf : Fm w w' h lv) (h1 : g ≠ h) (h2 : lv.ownBlock ≠ some g) (h3 : sv.ownBlock ≠ some h) (h4 : ∀ q, sv.ownBlock = some q → lv.ownBlock ≠ some q) : Mm w' B g sv cost mn now t xs :=
  ⟨hM.blk.kept (hf.block _ hM.blk.lt h1 h2), hM.row.kept (fun q hq => hf.block q (hM.row.row.lt q hq).2 (fun e => h3 (e ▸ hq)) (h4 q hq)), hM.low⟩
/-- both memories, apart from one another, after as many packets -/
structure Bo (w : World) (B g h : Nat) (av mn : Int) (k : Int) (now : Int) (sv lv : Value) (xs ss : List Sn) (now' : Int) (any : Bool) : Prop where
  m : Mm w B g sv (coS av) mn now k xs
  d : Rm w B h lv av mn now' any ss
  q : Rq (coS av) now k xs ss
  gh : g ≠ h
  sh : sv.ownBlock ≠ some h
  lg : lv.ownBlock ≠ some g
  sl : ∀ q, sv.ownBlock = some q → lv.ownBlock ≠ some q
  n0 : -9223372036854775808 ≤ now
  n1 : now ≤ 9223372036854775807
  an : (any = false ∧ now = -9223372036854775808) ∨ (any = true ∧ now' = now)
theorem Bo.rn {w : World} {B g h : Nat} {av mn k now : Int} {sv lv : Value} {xs ss : List Sn} {now' : Int} {any : Bool} (b : Bo w B g h av mn k now sv lv xs ss now' any) {n : Int} (hn : -9223372036854775808 ≤ n) : rnow any now' n = mxI now n := by
  rcases b.an with ⟨rfl, h⟩ | ⟨rfl, rfl⟩
  · subst h; unfold rnow mxI; simp; intro h; omega
  · rfl
theorem Bo.below {w w' : World} {B g h : Nat} {av mn k now : Int} {sv lv : Value} {xs ss : List Sn} {now' : Int} {any : Bool} (b : Bo w B g h av mn k now sv lv xs ss now' any) (hb : Below w.heap.size w w') : Bo w' B g h av mn k now sv lv xs ss now' any :=
  ⟨b.m.below hb, b.d.below hb, b.q, b.gh, b.sh, b.lg, b.sl, b.n0, b.n1, b.an⟩
theorem Bo.same {w w' : World} {B g h : Nat} {av mn k now : Int} {sv lv : Value} {xs ss : List Sn} {now' : Int} {any : Bool} (b : Bo w B g h av mn k now sv lv xs ss now' any) (hh : w'.heap = w.heap) : Bo w' B g h av mn k now sv lv xs ss now' any :=
  ⟨⟨b.m.blk.kept (by rw [hh]), b.m.row.kept (fun q _ => by rw [hh]), b.m.low⟩, ⟨b.d.blk.kept (by rw [hh]), b.d.row.kept (fun q _ => by rw [hh]), b.d.low⟩, b.q, b.gh, b.sh, b.lg, b.sl, b.n0, b.n1, b.an⟩
/-- the program hears; what the reference then hears -/
theorem both_heard (B g h : Nat) (av mn k now : Int) (sv lv : Value) (xs ss : List Sn) (now' : Int) (any : Bool) (a n f : Int) (a0 : 0 ≤ av) (a1 : av ≤ 10) (m0 : 0 ≤ mn) (m1 : mn ≤ 1024) (k0 : 0 ≤ k) (k1 : k ≤ 4611686018427387904) (n0 : -9223372036854775808 ≤ n) (n1 : n ≤ 9223372036854775807) :
    ∃ V, ∀ w, Bo w B g h av mn k now sv lv xs ss now' any → B ≤ w.heap.size → Calls Try.prog 19 #[.pointer (some ⟨g, 0, none⟩), .int .u32 a, .int .i64 n, .int .i64 f] w fun e w1 => e = .returned (.int .i64 V) ∧ Below B w w1 ∧ (∀ q, q < w.heap.size → q ≠ g → sv.ownBlock ≠ some q → w1.heap[q]? = w.heap[q]?) ∧ ∀ w2, Below w1.heap.size w1 w2 → Calls Try.prog 20 #[.pointer (some ⟨h, 0, none⟩), .int .u32 a, .int .i64 n, .int .i64 f] w2 fun e w3 => e = .returned (.int .i64 V) ∧ Below B w2 w3 ∧ (∀ q, q < w2.heap.size → q ≠ h → lv.ownBlock ≠ some q → w3.heap[q]? = w2.heap[q]?) ∧ ∃ now1 sv1 lv1 xs1 ss1 now1', Bo w3 B g h av mn (k + 1) now1 sv1 lv1 xs1 ss1 now1' true := by
  obtain ⟨lim, hl⟩ : ∃ lim, lim = decide (bits BinOp.and IntKind.i64 f 32 ≠ 0) := ⟨_, rfl⟩
  obtain ⟨kod, hk⟩ : ∃ kod, kod = decide (bits BinOp.and IntKind.i64 f 64 ≠ 0) := ⟨_, rfl⟩
  obtain ⟨c0, c1⟩ := coS_bd av a0 a1
  refine ⟨hdV ss a (coS av) mn (mxI now n) lim kod, fun w b hB => (mheard B g sv xs ss (coS av) mn now k a n f lim kod w b.m hB b.q c0 c1 m0 m1 b.n0 b.n1 n1 k0 k1 hl hk).mono ?_⟩
  rintro e w1 ⟨sv1, xs1, rfl, hq1, hm1, hf1, hs1⟩
  have hown : ∀ q, sv.ownBlock = some q → B ≤ q := fun q e => (b.m.row.row.lt q e).1
  refine ⟨rfl, hf1.below hB b.m.low hown, hf1.block, fun w2 hb2 => ?_⟩
  have hd1 : Rm w1 B h lv av mn now' any ss := b.d.fm hf1 b.gh.symm b.sh b.lg (fun q hq e => b.sl q e hq)
  have hd2 := hd1.below hb2
  have hm2 := hm1.below hb2
  have hmx := le_mxI now n
  have hmx1 : mxI now n ≤ 9223372036854775807 := by unfold mxI; have := b.n1; split <;> omega
  have hrn := b.rn n0
  have hlt : ∀ q, lv.ownBlock = some q → q < w.heap.size := fun q e => (b.d.row.row.lt q e).2
  have hhl : h < w.heap.size := b.d.blk.lt
  have hB2 : B ≤ w2.heap.size := Nat.le_trans hB (Nat.le_trans hf1.size hb2.size)
  have hsh1 : sv1.ownBlock ≠ some h := fun e => by rcases hs1 _ e with h1 | h1; exact b.sh h1; omega
  have hsl1 : ∀ q, sv1.ownBlock = some q → lv.ownBlock ≠ some q := fun q e e2 => by
    rcases hs1 _ e with h1 | h1
    · exact b.sl q h1 e2
    · have := hlt q e2; omega
  have hr := rheard_any B h lv av mn now' a n f any lim kod (k + 1) ss w2 hd2 hB2 a0 a1 b.q.len m0 m1 (by rw [hrn]; exact hmx1) (fun x hx => by
    rw [hrn]
    obtain ⟨h1, h2, h3, h4, h5, h6⟩ := b.q.ok x hx
    exact ⟨h1, h2, by omega, h4, h5, h6⟩) b.q.adr hl hk
  rw [hrn] at hr
  refine hr.mono ?_
  rintro e w3 ⟨lv1, rfl, hd3, hf3, hs3⟩
  refine ⟨rfl, hf3.below hB2 b.d.low (fun q e => (b.d.row.row.lt q e).1), hf3.block, mxI now n, sv1, lv1, xs1, _, mxI now n, hm2.fm hf3 b.gh b.lg hsh1 hsl1, hd3, hq1, b.gh, hsh1, ?_, ?_, by have := b.n0; omega, hmx1, .inr ⟨rfl, rfl⟩⟩
  · intro e
    rcases hs3 _ e with h1 | h1
    · exact b.lg h1
    · have := hm2.blk.lt; omega
  · intro q e e2
    rcases hs3 _ e2 with h1 | h1
    · exact hsl1 q e h1
    · have := (hm2.row.row.lt q e).2; omega
end Go.Proofs.Ytmgphfdieekpdaa
