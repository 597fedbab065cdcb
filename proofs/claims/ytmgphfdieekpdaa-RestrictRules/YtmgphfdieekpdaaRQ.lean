/- remember. -/
import Derived.Test.YtmgphfdieekpdaaRN
import Derived.Deep.RegionWith
import Derived.Deep.RegionLaw
import Derived.Deep.DeepCutAuto
import Derived.Lib.OwnKind
namespace Go.Proofs.Ytmgphfdieekpdaa
open Go Go.RowKit
theorem tiSn : TI 64 75 6 48 := by
  refine ⟨Try.underlying64, ?_, by decide⟩
  have h : (Try.prog.info? 75).map (fun i => (i.zero, i.size, i.bytes)) = some (some (.agg #[.int .u32 0, .int .i64 0, .int .i64 0, .int .i64 0, .int .i64 0, .int .i64 0]), 6, 48) := by kernel_rfl
  cases hi : Try.prog.info? 75 with
  | none => rw [hi] at h; cases h
  | some i =>
    rw [hi] at h
    simp at h
    exact ⟨i, _, rfl, h.1, h.2.1, h.2.2, rfl⟩
theorem Rk.drew {N k : Nat} {w : World} {v : Value} {xs : List (List Value)} (h : Rk N w k v xs) : Rk N w.drew k v xs := h
/-- what a call that may change the memory leaves as it was -/
structure Fm (w w' : World) (g : Nat) (sv : Value) : Prop where
  os : w'.os = w.os
  tape : w'.tape = w.tape
  output : w'.output = w.output
  size : w.heap.size ≤ w'.heap.size
  block : ∀ k, k < w.heap.size → k ≠ g → sv.ownBlock ≠ some k → w'.heap[k]? = w.heap[k]?
theorem Fm.below {w w' : World} {g B : Nat} {sv : Value} (h : Fm w w' g sv) (hB : B ≤ w.heap.size) (hg : B ≤ g) (hs : ∀ k, sv.ownBlock = some k → B ≤ k) : Below B w w' :=
  ⟨h.os, h.tape, h.output, h.size, fun k hk => h.block k (by omega) (by omega) (fun e => by have := hs k e; omega)⟩
theorem Fm.trans {w w1 w2 : World} {g : Nat} {sv sv1 : Value} (h : Fm w w1 g sv) (h1 : Fm w1 w2 g sv1) (hs : ∀ k, sv1.ownBlock = some k → sv.ownBlock = some k ∨ w.heap.size ≤ k) : Fm w w2 g sv :=
  ⟨h1.os.trans h.os, h1.tape.trans h.tape, h1.output.trans h.output, Nat.le_trans h.size h1.size, fun k hk hg hn => (h1.block k (Nat.lt_of_lt_of_le hk h.size) hg (fun e => by
    rcases hs k e with h2 | h2
    · exact hn h2
    · omega)).trans (h.block k hk hg hn)⟩
theorem Fm.of_below {w w' : World} {g : Nat} {sv : Value} (h : Below w.heap.size w w') : Fm w w' g sv := ⟨h.os, h.tape, h.output, h.size, fun k hk _ _ => h.block k hk⟩
theorem Fm.refl (w : World) (g : Nat) (sv : Value) : Fm w w g sv := ⟨rfl, rfl, rfl, Nat.le_refl _, fun _ _ _ _ => rfl⟩
theorem Fm.cell {w w' : World} {g j : Nat} {sv : Value} (h : Fm w w' g sv) (x : Value) : Fm w (w'.setCell ⟨g, j, none⟩ x) g sv :=
  ⟨h.os, h.tape, h.output, by simpa [World.setCell] using h.size, fun k hk hg hn => by rw [Below.heap_setCell _ _ _ _ hg]; exact h.block k hk hg hn⟩
theorem Fm.drew {w w' : World} {g : Nat} {sv : Value} (h : Fm w w' g sv) : Fm w w'.drew g sv := ⟨h.os, h.tape, h.output, h.size, h.block⟩
theorem Fm.row {w w' : World} {g : Nat} {sv : Value} (h : w.grownBy w' sv.ownBlock) : Fm w w' g sv := ⟨h.os, h.tape, h.output, h.size, fun k hk _ hn => h.block k hk (fun e => hn e.symm)⟩
/-- a memory -/
structure Mm (w : World) (B g : Nat) (sv : Value) (cost mn now turns : Int) (xs : List Sn) : Prop where
  blk : Bk g w #[.int .i64 cost, .int .i64 mn, .int .i64 now, .int .i64 turns, sv] 66
  row : OR w B 75 6 sv (xs.map snL)
  low : B ≤ g
theorem Mm.ne {w : World} {B g : Nat} {sv : Value} {cost mn now turns : Int} {xs : List Sn} (h : Mm w B g sv cost mn now turns xs) : sv.ownBlock ≠ some g := by
  intro e
  obtain ⟨c, fz, h1⟩ := Lib.ownsRow_kind h.row.row g e
  have h2 := h.blk
  unfold Bk at h2
  rw [h1] at h2
  injection h2 with h2
  injection h2 with _ h2 _
  exact absurd h2 (by decide)
theorem Mm.kept {w w' : World} {B g : Nat} {sv : Value} {cost mn now turns : Int} {xs : List Sn} (h : Mm w B g sv cost mn now turns xs) (hb : ∀ k, k < w.heap.size → k = g ∨ sv.ownBlock = some k → w'.heap[k]? = w.heap[k]?) : Mm w' B g sv cost mn now turns xs := by
  refine ⟨h.blk.kept (hb g h.blk.lt (.inl rfl)), ?_, h.low⟩
  refine ⟨⟨h.row.row.1, ?_⟩, h.row.len⟩
  rcases h.row.row.2 with r | ⟨q, cap, cur, a1, a2, a3, r⟩
  · exact .inl r
  · refine .inr ⟨q, cap, cur, a1, a2, ?_, r⟩
    have hq : q < w.heap.size := by
      rcases Nat.lt_or_ge q w.heap.size with hlt | hge
      · exact hlt
      · rw [Array.getElem?_eq_none hge] at a3; cases a3
    rw [hb q hq (.inr (by rw [a1]; rfl))]; exact a3
theorem Mm.below {w w' : World} {B g : Nat} {sv : Value} {cost mn now turns : Int} {xs : List Sn} (h : Mm w B g sv cost mn now turns xs) (hb : Below w.heap.size w w') : Mm w' B g sv cost mn now turns xs :=
  h.kept (fun k hk _ => hb.block k hk)
/-- one that is new -/
def nwS (a cost now turns : Int) : Sn := ⟨a, now, now, 1, cost, turns⟩
/-- the row is longer; the memory's cell is still the old one -/
structure RmF (w w2 : World) (B g : Nat) (sv sv2 : Value) (cost mn now turns : Int) (ys : List Sn) : Prop where
  blk : Bk g w2 #[.int .i64 cost, .int .i64 mn, .int .i64 now, .int .i64 turns, sv] 66
  row : OR w2 B 75 6 sv2 (ys.map snL)
  low : B ≤ g
  fr : Fm w w2 g sv
  own : ∀ k, sv2.ownBlock = some k → sv.ownBlock = some k ∨ w.heap.size ≤ k
theorem RmF.mk' {w W1 W2 w2 : World} {B g : Nat} {sv v2 : Value} {cost mn now turns : Int} {xs : List Sn} {s : Sn} (hM : Mm W1 B g sv cost mn now turns xs) (hB : Below w.heap.size w W1) (hW : Below W1.heap.size W1 W2) (ho : OR w2 B 75 6 v2 (xs.map snL ++ [snL s])) (hg : W2.grownBy w2 sv.ownBlock) (hv : v2.ownBlock = sv.ownBlock ∨ v2.ownBlock = some W2.heap.size) : ∃ ao n cap, v2 = .slice ao n cap ∧ RmF w w2 B g sv (.slice ao n cap) cost mn now turns (xs ++ [s]) := by
  obtain ⟨ao, cap, h1, -, -⟩ := ho.rk
  have hM2 := hM.below hW
  refine ⟨ao, _, cap, h1, ?_, ?_, hM.low, ?_, ?_⟩
  · exact hM2.blk.kept (hg.block g hM2.blk.lt (fun e => hM2.ne e.symm))
  · rw [← h1, List.map_append]; exact ho
  · exact (Fm.of_below hB).trans ((Fm.of_below (g := g) (sv := sv) hW).trans (Fm.row hg) (fun k e => .inl e)) (fun k e => .inl e)
  · intro k hk
    rw [← h1] at hk
    rcases hv with h2 | h2
    · left; rw [← h2]; exact hk
    · right
      rw [h2] at hk
      injection hk with hk
      have := hB.size; have := hW.size
      omega
/-- the cell is written -/
theorem RmF.done {w w2 : World} {B g : Nat} {sv sv2 : Value} {cost mn now turns : Int} {ys : List Sn} (h : RmF w w2 B g sv sv2 cost mn now turns ys) (hne : sv2.ownBlock ≠ some g) : Mm (w2.setCell ⟨g, 4, none⟩ sv2) B g sv2 cost mn now turns ys ∧ Fm w (w2.setCell ⟨g, 4, none⟩ sv2) g sv := by
  refine ⟨⟨?_, ?_, h.low⟩, h.fr.cell _⟩
  · have := h.blk.set (j := 4) sv2
    simpa using this
  · exact h.row.mod (q := g) ⟨rfl, rfl, rfl, by simp, fun k _ hk => Below.heap_setCell _ _ _ _ (by intro e; exact hk (by rw [e]))⟩ hne
theorem RmF.ne {w w2 : World} {B g : Nat} {sv sv2 : Value} {cost mn now turns : Int} {ys : List Sn} (h : RmF w w2 B g sv sv2 cost mn now turns ys) : sv2.ownBlock ≠ some g := by
  intro e
  obtain ⟨c, fz, h1⟩ := Lib.ownsRow_kind h.row.row g e
  have h2 := h.blk
  unfold Bk at h2
  rw [h1] at h2
  injection h2 with h2
  injection h2 with _ h2 _
  exact absurd h2 (by decide)
set_option maxHeartbeats 2000000 in
set_option maxRecDepth 20000 in
theorem remember_few (B g : Nat) (sv : Value) (xs : List Sn) (cost mn now turns a : Int) (w : World) (hM : Mm w B g sv cost mn now turns xs) (hB : B ≤ w.heap.size) (hl : xs.length < 32) :
    Calls Try.prog 33 #[.pointer (some ⟨g, 0, none⟩), .int .u32 a] w fun e w' => e = .returned (.tuple #[]) ∧ ∃ sv', Mm w' B g sv' cost mn now turns (xs ++ [nwS a cost now turns]) ∧ Fm w w' g sv ∧ (∀ k, sv'.ownBlock = some k → sv.ownBlock = some k ∨ w.heap.size ≤ k) := by
  have hc := hM.blk.cell 0
  have hm := hM.blk.cell 1
  have hn := hM.blk.cell 2
  have ht := hM.blk.cell 3
  have hs := hM.blk.cell 4
  simp at hc hm hn ht hs
  have hfr : ∀ j, w.frozen? ⟨g, j, none⟩ = false := fun j => hM.blk.frozen j
  have hgl : g < w.heap.size := hM.blk.lt
  obtain ⟨ao, cap, hsv, hcap, -⟩ := hM.row.rk
  rw [List.length_map] at hsv hcap
  subst hsv
  obtain ⟨L, hL⟩ : ∃ L, L = xs.length := ⟨_, rfl⟩
  rw [← hL] at hs hcap hM
  have HL : Hid (L = xs.length ∧ L < 32) := ⟨hL, by omega⟩
  have hL32 : (L : Int) < 32 := by omega
  rw [← hL]
  have HM : Hid (Mm w B g (.slice ao L cap) cost mn now turns xs ∧ B ≤ w.heap.size) := ⟨hM, hB⟩
  clear hL hl hM hB
  go_enter Try.func33, Try.ntmps33
  go_wp2
  go_region
  generalize hW1 : World.drew _ = W1
  have HB1 : Hid (Below w.heap.size w W1) := by rw [← hW1]; exact ((Below.refl _ _).alloc (Nat.le_refl _) _).drew
  have hz1 : W1.heap.size = w.heap.size + 1 := by rw [← hW1]; simp [World.drew]
  have HS1 : Hid (Bk w.heap.size W1 #[.int .u32 a, .int .i64 now, .int .i64 now, .int .i64 1, .int .i64 cost, .int .i64 turns] 75) := by rw [← hW1]; exact Bk.new w _ _
  have HM1 : Hid (Mm W1 B g (.slice ao L cap) cost mn now turns xs) := HM.out.1.below HB1.out
  have s0 := HS1.out.cell 0
  have s1 := HS1.out.cell 1
  have s2 := HS1.out.cell 2
  have s3 := HS1.out.cell 3
  have s4 := HS1.out.cell 4
  have s5 := HS1.out.cell 5
  have hs1 := HM1.out.blk.cell 4
  simp at s0 s1 s2 s3 s4 s5 hs1
  have hfr1 : ∀ j, W1.frozen? ⟨g, j, none⟩ = false := fun j => HM1.out.blk.frozen j
  have hgl1 : g < W1.heap.size := HM1.out.blk.lt
  have HR : Hid (∀ o, Rk (W1.heap.size + 1) (W1.alloc (Obj.cells #[.int .u32 a, .int .i64 now, .int .i64 now, .int .i64 1, .int .i64 cost, .int .i64 turns] o)) 6 (.slice (some ⟨w.heap.size + 1, 0, none⟩) 1 1) [snL (nwS a cost now turns)]) := fun o => by
    rw [← hz1]
    refine ⟨some ⟨W1.heap.size, 0, none⟩, 1, rfl, by simp, fun i hi => ⟨_, rfl, by simp, fun j u hu => ?_⟩⟩
    have hi0 : i = 0 := by simp at hi; omega
    subst hi0
    rw [add_own, Nat.zero_mul, Nat.zero_add, (Bk.new W1 _ o).cell j]
    have : (#[.int .u32 a, .int .i64 now, .int .i64 now, .int .i64 1, .int .i64 cost, .int .i64 turns] : Array Value)[j]? = (snL (nwS a cost now turns))[j]? := by simp [snL, nwS]
    rw [this]; exact hu
  have HLN : Hid ((xs.map snL).length + [snL (nwS a cost now turns)].length ≤ maxLen ∧ ((xs.map snL).length + [snL (nwS a cost now turns)].length) * 48 ≤ 140737488355328 ∧ B ≤ W1.heap.size + 1) := by
    have h1 := HL.out
    have h2 := HM.out.2
    refine ⟨?_, ?_, by omega⟩
    · rw [List.length_map]; simp; unfold maxLen; omega
    · rw [List.length_map]; simp; omega
  have hs1a : ∀ o, (W1.alloc o).cell? ⟨g, 4, none⟩ = some (.slice ao L cap) := fun o => by rw [World.cell?_alloc_lt _ _ _ hgl1]; exact hs1
  clear hW1 hc hm hn ht hs hfr hgl
  go_wp2
  go_region_law ((refine step_appk tiSn (by rfl) _ _ (by rfl) B (W1.heap.size + 1) (.slice ao L cap) (.slice (some ⟨w.heap.size + 1, 0, none⟩) 1 1) (xs.map snL) [snL (nwS a cost now turns)] (by rfl) (by rfl) (by first | exact (HM1.out.row.alloc _).drew | exact HM1.out.row.alloc _) (by first | exact Rk.drew (HR.out _) | exact HR.out _) (by intro n c hh; cases hh) (by intro r hr; simp at hr; subst hr; rfl) (by intro r hr u hu; simp at hr; subst hr; simp [snL, nwS] at hu; rcases hu with rfl | rfl | rfl | rfl | rfl | rfl <;> rfl) HLN.out.1 HLN.out.2.1 (by have := HLN.out.2.2; simp; omega) ?_; intro v2 w2 ho2 hg2 hv2; obtain ⟨ao2, n2, cap2, rfl, F2⟩ := RmF.mk' HM1.out HB1.out (by first | exact ((Below.refl _ _).alloc (Nat.le_refl _) _).drew | exact (Below.refl _ _).alloc (Nat.le_refl _) _) ho2 hg2 hv2; have G2 : Hid (RmF w w2 B g (.slice ao L cap) (.slice ao2 n2 cap2) cost mn now turns (xs ++ [nwS a cost now turns])) := F2; have k4 : w2.cell? ⟨g, 4, none⟩ = some (.slice ao L cap) := F2.blk.cell 4; have k5 : w2.frozen? ⟨g, 4, none⟩ = false := F2.blk.frozen 4; clear F2 ho2 hg2 hv2))
  all_goals
    go_wp2
    first | go_end0 | go_ret | go_ret2 | (refine bodyPost_ret (v := .tuple #[]) (by simp [results, Try.results33, go_sem]) rfl ?_)
    obtain ⟨h1, h2⟩ := G2.out.done G2.out.ne
    first
    | exact ⟨rfl, _, h1, h2, G2.out.own⟩
    | exact ⟨rfl, _, h1.below (Below.refl _ _).drew, h2.drew, G2.out.own⟩
end Go.Proofs.Ytmgphfdieekpdaa
