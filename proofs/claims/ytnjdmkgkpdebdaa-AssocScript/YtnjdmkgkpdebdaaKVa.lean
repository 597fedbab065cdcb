/- assoc: tables within a law, steps in blocks. -/
import Derived.Test.YtnjdmkgkpdebdaaKU
namespace Go.Proofs.Ytnjdmkgkpdebdaa
open Go Go.RowKit Go.Sort
set_option linter.unusedVariables false
/-- a table that a law has made, beside blocks that it keeps -/
structure Tw (w W : World) (q : Nat) (ms : List (Option Mb)) (bl : List (Nat × List Value × TypeId)) : Prop where
  tb : Tb W q ms
  be : Below w.heap.size w W
  hq : w.heap.size ≤ q
  hm : ∀ (i : Nat) m, ms[i]? = some (some m) → w.heap.size ≤ m.b
  kw : kWf ms
  bk : ∀ x ∈ bl, Bk x.1 W x.2.1.toArray x.2.2 ∧ x.1 ≠ q ∧ ∀ (i : Nat) m, ms[i]? = some (some m) → m.b ≠ x.1
theorem Tw.below {w W W' : World} {q : Nat} {ms : List (Option Mb)} {bl : List (Nat × List Value × TypeId)} (h : Tw w W q ms bl) (hb : Below W.heap.size W W') : Tw w W' q ms bl :=
  ⟨h.tb.below hb, below_thru h.be hb, h.hq, h.hm, h.kw, fun x hx => ⟨(h.bk x hx).1.kept (hb.block _ (h.bk x hx).1.lt), (h.bk x hx).2⟩⟩
theorem below_own' {w W W' : World} {q : Nat} (hb : Below w.heap.size w W) (hg : W.grownBy W' (some q)) (hq : w.heap.size ≤ q) : Below w.heap.size w W' :=
  hb.trans ⟨hg.os, hg.tape, hg.output, hg.size, fun k hk => hg.block k (Nat.lt_of_lt_of_le hk hb.size) (fun e => by injection e with e; omega)⟩
theorem ad_mem {ms : List (Option Mb)} {a : As} {p now : Int} {b i : Nat} {m : Mb} (h : (adT ms a p now b)[i]? = some (some m)) : ms[i]? = some (some m) ∨ (m.b = b ∧ m.ac = a) := by
  unfold adT at h
  split at h
  · rw [List.getElem?_set] at h
    split at h
    · split at h
      · injection h with h
        injection h with h
        subst h
        exact .inr ⟨rfl, rfl⟩
      · cases h
    · exact .inl h
  · exact .inl h
theorem Tw.ad {w W W' : World} {q : Nat} {ms : List (Option Mb)} {bl : List (Nat × List Value × TypeId)} (h : Tw w W q ms bl) {a : As} {p now : Int} {b : Nat} (ht : Tb W' q (adT ms a p now b)) (hg : W.grownBy W' (some q)) (hb : W.heap.size ≤ b) (hk : (Lit.int .i64 a.kind).wf = true) : Tw w W' q (adT ms a p now b) bl := by
  have hs := h.be.size
  refine ⟨ht, below_own' h.be hg h.hq, h.hq, fun i m hm => ?_, fun i m hm => ?_, fun x hx => ?_⟩
  · rcases ad_mem hm with h1 | ⟨h1, _⟩
    · exact h.hm i m h1
    · omega
  · rcases ad_mem hm with h1 | ⟨_, h1⟩
    · exact h.kw i m h1
    · rw [h1]; exact hk
  · obtain ⟨k1, k2, k3⟩ := h.bk x hx
    refine ⟨k1.kept (hg.block _ k1.lt (fun e => k2 (Option.some.inj e))), k2, fun i m hm => ?_⟩
    rcases ad_mem hm with h1 | ⟨h1, _⟩
    · exact k3 i m h1
    · have := k1.lt; omega
theorem Tw.mo {w W W' : World} {q : Nat} {ms : List (Option Mb)} {bl : List (Nat × List Value × TypeId)} (h : Tw w W q ms bl) {act par poll key frm now : Int} {b : Nat} (ht : Tb W' q (moT ms act par poll key frm now b)) (hg : W.grownBy W' (some q)) (hb : W.heap.size ≤ b) : Tw w W' q (moT ms act par poll key frm now b) bl := by
  unfold moT at ht ⊢
  cases hm : moA ms act par poll key frm with
  | none =>
    rw [hm] at ht
    exact ⟨ht, below_own' h.be hg h.hq, h.hq, h.hm, h.kw, fun x hx => ⟨(h.bk x hx).1.kept (hg.block _ (h.bk x hx).1.lt (fun e => (h.bk x hx).2.1 (Option.some.inj e))), (h.bk x hx).2⟩⟩
  | some ap =>
    obtain ⟨a, p⟩ := ap
    rw [hm] at ht
    refine h.ad ht hg hb ?_
    unfold moA at hm
    split at hm
    · injection hm with hm; injection hm with h1 h2; rw [← h1]; show (Lit.int .i64 7).wf = true; decide
    · split at hm
      · injection hm with hm; injection hm with h1 h2; rw [← h1]; show (Lit.int .i64 8).wf = true; decide
      · split at hm
        · split at hm
          · cases hm
          · split at hm
            · injection hm with hm; injection hm with h1 h2; rw [← h1]; show (Lit.int .i64 9).wf = true; decide
            · cases hm
        · cases hm
theorem Tw.keep {w W W' : World} {q : Nat} {ms : List (Option Mb)} {bl : List (Nat × List Value × TypeId)} (h : Tw w W q ms bl) {g : Nat} {l : List Value} {T : TypeId} (hn : Nw W W' g l.toArray T) : Tw w W' q ms ((g, l, T) :: bl) := by
  have h2 := h.below hn.be
  refine ⟨h2.tb, h2.be, h2.hq, h2.hm, h2.kw, fun x hx => ?_⟩
  rcases List.mem_cons.1 hx with rfl | hx
  · have l1 := h.tb.lt
    have l2 := hn.at'
    exact ⟨hn.bk, by simp only; omega, fun i m hm => by have := (h.tb.mem i m hm).1.lt; simp only; omega⟩
  · exact h2.bk x hx
theorem Tw.of {w W W' : World} {q : Nat} {xs : List As} {bs : Nat → Nat} {bl : List (Nat × List Value × TypeId)} (h : Nr W W' q (tbL xs bs)) (hb : Below w.heap.size w W) (hk : ∀ a ∈ xs, (Lit.int .i64 a.kind).wf = true) (hbl : ∀ x ∈ bl, Bk x.1 W x.2.1.toArray x.2.2) : Tw w W' q (tbL xs bs) bl := by
  have hs := hb.size
  refine ⟨h.tb, below_thru hb h.be, Nat.le_trans hs h.hq, fun i m hm => Nat.le_trans hs (h.hm i m hm), fun i m hm => ?_, fun x hx => ?_⟩
  · obtain ⟨_, a, ha, rfl⟩ := tb_some hm
    exact hk a (List.mem_of_getElem? ha)
  · have l := (hbl x hx).lt
    have := h.hq
    exact ⟨(hbl x hx).kept (h.be.block _ l), by omega, fun i m hm => by have := h.hm i m hm; omega⟩
def spZ : Stp := ⟨0, zAs, 0, 0, [.int .i64 0, .int .i64 0, .int .i64 0, .int .i64 0, .int .i64 0, .int .i64 0, .int .i64 0, .int .i64 0, .int .u32 0, .int .u64 0, .int .u64 0, .int .u64 0, .int .u64 0, .slice none 0 0, .int .i64 0, .bool false, .slice none 0 0], 0, 0, 0, 0, 0, 0, false, 0⟩
theorem sp_one {x : Stp} (h : okX x) : (spC x).toArray.all (·.oneCell') = true := by
  refine all_one fun v hv => ?_
  unfold spC asL at hv
  simp only [List.mem_cons, List.mem_append, List.not_mem_nil, or_false] at hv
  rcases hv with rfl | (rfl | rfl | rfl | rfl | rfl | rfl | rfl | rfl | rfl | rfl | rfl | rfl) | rfl | rfl | hv | rfl | rfl | rfl | rfl | rfl
  all_goals first
    | rfl
    | exact h.one _ hv
theorem sp_size {x : Stp} (h : okX x) : (Try.prog.info? 49).map (·.size) = some (spC x).toArray.size := by
  have e : (Try.prog.info? 49).map (·.size) = some 37 := by kernel_rfl
  rw [e]
  show some 37 = some (spC x).length
  rw [sp_len h]
theorem sp_size2 {x : Stp} (h : okX x) : (spC spZ).toArray.size = (spC x).toArray.size := by
  show 37 = (spC x).length
  rw [sp_len h]
/-- a step in a block of its own -/
structure Sb (W : World) (g : Nat) (x : Stp) : Prop where
  bk : Bk g W (spC x).toArray 49
  ok : okX x
theorem Sb.cell {W : World} {g : Nat} {x : Stp} (h : Sb W g x) (j : Nat) : W.cell? ⟨g, j, none⟩ = (spC x)[j]? := by rw [h.bk.cell, List.getElem?_toArray]
theorem Sb.pkt {W : World} {g : Nat} {x : Stp} (h : Sb W g x) : ∀ j u, x.pk[j]? = some u → W.cell? ((⟨g, 15, none⟩ : Addr).add j) = some u := fun j u hu => by
  rw [own_add, h.cell]
  exact (sp_at h.ok).2.2.2.2.1 j u hu
theorem Sb.asc {W : World} {g : Nat} {x : Stp} (h : Sb W g x) : ∀ j u, (asL x.ac)[j]? = some u → W.cell? ((⟨g, 1, none⟩ : Addr).add j) = some u := fun j u hu => by
  rw [own_add, h.cell]
  exact (sp_at h.ok).2.1 j u hu
theorem i64_low {n : Int} (h : (Lit.int .i64 n).wf = true) : -9223372036854775808 ≤ n := by
  have e1 : IntKind.i64.min = -9223372036854775808 := by decide
  have e2 : IntKind.i64.max = 9223372036854775807 := by decide
  simp [Lit.wf, e1, e2] at h
  omega
theorem or_len {w : World} {B : Nat} {e : TypeId} {k : Nat} {v : Value} {rows : List (List Value)} (h : OR w B e k v rows) : ∃ ao cap, v = .slice ao rows.length cap := by
  rcases h.row.2 with ⟨h1, h2⟩ | ⟨g, cap, cur, h1, _⟩
  · refine ⟨none, 0, ?_⟩
    have : rows.length = 0 := by first | (simpa using h2) | (rw [h2]; rfl) | (simp_all)
    rw [this]; exact h1
  · exact ⟨_, _, h1⟩
end Go.Proofs.Ytnjdmkgkpdebdaa
