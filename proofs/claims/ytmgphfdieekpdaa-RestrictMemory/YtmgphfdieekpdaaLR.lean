/- RestrictRecent: Heard in the law's words; rows of u32. -/
import Derived.Test.YtmgphfdieekpdaaLP
import Derived.Test.YtmgphfdieekpdaaLC
import Derived.Test.YtmgphfdieekpdaaRV
namespace Go.Proofs.Ytmgphfdieekpdaa
open Go Go.RowKit
def nowK (k : Int) : Int := if k = 0 then -9223372036854775808 else k - 1
theorem mx_nowK (k : Int) : mxI (nowK k) k = k := by unfold mxI nowK; repeat' split; all_goals omega
theorem Ri.okN {k : Int} {xs : List Sn} {rs : List Int} (h : Ri k xs rs) : ∀ x ∈ xs, Sok 8 (nowK k) x := by
  unfold nowK
  split
  · rename_i hk
    intro x hx
    obtain ⟨ss, hp, hj, -⟩ := h
    have := hj.each x (hp.symm.subset hx)
    omega
  · exact h.ok
set_option maxHeartbeats 400000 in
theorem heard_step (B g : Nat) (sv : Value) (xs : List Sn) (rs : List Int) (k a : Int) (w : World) (hM : Mm w B g sv 8 2 (nowK k) k xs) (hB : B ≤ w.heap.size) (hR : Ri k xs rs) (k0 : 0 ≤ k) (k1 : k ≤ 4611686018427387904) :
    Calls Try.prog 19 #[.pointer (some ⟨g, 0, none⟩), .int .u32 a, .int .i64 k, .int .i64 0] w fun e w' => ∃ sv' xs' v, e = .returned (.int .i64 v) ∧ (Ri (k + 1) xs' (rcS rs a) ∧ (∃ s ∈ xs', s.addr = a) ∧ ∀ s ∈ xs', s.addr = a → s.last = k ∧ 1 ≤ s.count) ∧ Mm w' B g sv' 8 2 k (k + 1) xs' ∧ Fm w w' g sv ∧ (∀ q, sv'.ownBlock = some q → sv.ownBlock = some q ∨ w.heap.size ≤ q) := by
  have n0 : -9223372036854775808 ≤ nowK k := by unfold nowK; split <;> omega
  have n1 : nowK k ≤ 9223372036854775807 := by unfold nowK; split <;> omega
  by_cases hc : xs.length < 32 ∨ ∃ x ∈ xs, x.addr = a
  · have hlen : xs.length < 32 ∨ (xs.length ≤ 32 ∧ ∃ x ∈ xs, x.addr = a) := hc.imp_right (fun h => ⟨hR.len, h⟩)
    have h := heard_few B g sv xs 8 2 (nowK k) k a k 0 false false w hM hB hlen (by omega) (by omega) (by omega) (by omega) n0 n1 (by omega) k0 k1 hR.okN (by decide) (by decide)
    rw [mx_nowK k] at h
    refine h.mono ?_
    rintro e w' ⟨sv', xs', v, rfl, h1, h2, h3, h4⟩
    have hs := hR.step k0 (.inl ⟨hc, h1⟩)
    exact ⟨sv', xs', v, rfl, ⟨hs, Ri.found (.inl ⟨hc, h1⟩) hs⟩, h2, h3, h4⟩
  · have hl : xs.length = 32 := by
      have := hR.len
      rcases Nat.lt_or_ge xs.length 32 with h | h
      · exact absurd (.inl h) hc
      · omega
    have hno : ∀ x ∈ xs, x.addr ≠ a := fun x hx e => hc (.inr ⟨x, hx, e⟩)
    have h := heard_full B g sv xs 8 2 (nowK k) k a k 0 w hM hB hl hno hR.nd n0 n1 (by omega) k0 k1
    rw [mx_nowK k] at h
    refine h.mono ?_
    rintro e w' ⟨rfl, i, h0, h1, h2⟩
    have hs := hR.step (v := 0) k0 (.inr ⟨hl, hno, i, h0, rfl⟩)
    exact ⟨sv, _, 0, rfl, ⟨hs, Ri.found (v := 0) (.inr ⟨hl, hno, i, h0, rfl⟩) hs⟩, h1, h2, fun q e => .inl e⟩
def uL (x : Int) : List Value := [.int .u32 x]
theorem tiU : TI 36 24 1 4 := by
  refine ⟨Try.underlying36, ?_, by decide⟩
  have h : (Try.prog.info? 24).map (fun i => (i.zero, i.size, i.bytes)) = some (some (.int .u32 0), 1, 4) := by kernel_rfl
  cases hi : Try.prog.info? 24 with
  | none => rw [hi] at h; cases h
  | some i =>
    rw [hi] at h
    simp at h
    exact ⟨i, _, rfl, h.1, h.2.1, h.2.2, rfl⟩
theorem ix_u {ao : Option Addr} {ad : Addr} (n cap k : Nat) (h : ao = some ad) (hk : (k : Int) < n) (w : World) : Sem.run Try.prog (Instr.indexAt 36 (.slice ao n cap) (.int .i64 (k : Int))) w = .ok (.pointer (some (ad.add k))) w := by
  subst h
  have u := Try.underlying36
  have c3 : Try.prog.cellsOf 24 = 1 := by kernel_rfl
  have h0 : (0 : Int) ≤ k := Int.natCast_nonneg k
  go_simp
theorem ix_en {ao : Option Addr} {ad : Addr} (n cap k : Nat) (h : ao = some ad) (hk : (k : Int) < n) (w : World) : Sem.run Try.prog (Instr.indexAt 55 (.slice ao n cap) (.int .i64 (k : Int))) w = .ok (.pointer (some (ad.add (k * 5)))) w := by
  subst h
  have u := Try.underlying55
  have c3 : Try.prog.cellsOf 52 = 5 := by kernel_rfl
  have h0 : (0 : Int) ≤ k := Int.natCast_nonneg k
  go_simp
/-- the list of the law: it lies apart from the memory's two blocks -/
def Rec (w : World) (g : Nat) (sv : Value) (ro : Option Addr) (rs : List Int) : Prop := ∀ i (hi : i < rs.length), ∃ ad, ro = some ad ∧ ad.block < w.heap.size ∧ ad.block ≠ g ∧ sv.ownBlock ≠ some ad.block ∧ w.cell? (ad.add i) = some (.int .u32 rs[i])
theorem Rec.fm {w w' : World} {g : Nat} {sv sv' : Value} {ro : Option Addr} {rs : List Int} (h : Rec w g sv ro rs) (hf : Fm w w' g sv) (hs : ∀ q, sv'.ownBlock = some q → sv.ownBlock = some q ∨ w.heap.size ≤ q) : Rec w' g sv' ro rs := fun i hi => by
  obtain ⟨ad, h1, h2, h3, h4, h5⟩ := h i hi
  refine ⟨ad, h1, Nat.lt_of_lt_of_le h2 hf.size, h3, fun e => ?_, ?_⟩
  · rcases hs _ e with h | h
    · exact h4 h
    · omega
  · rw [World.cell?_of_block (w := w) (a := ad.add i) (by rw [add_block]; exact hf.block _ h2 h3 h4)]
    exact h5
theorem Rec.below {w w' : World} {g : Nat} {sv : Value} {ro : Option Addr} {rs : List Int} (h : Rec w g sv ro rs) (hb : Below w.heap.size w w') : Rec w' g sv ro rs := h.fm (Fm.of_below hb) (fun _ e => .inl e)
theorem OR.recU {w : World} {B g cap n : Nat} {sv : Value} {ro : Option Addr} {rs : List Int} (h : OR w B 24 1 (.slice ro n cap) (rs.map uL)) (hg : g < B) (hs : ∀ q, sv.ownBlock = some q → q < B) : Rec w g sv ro rs := fun i hi => by
  obtain ⟨g', cap', hf, -, hg1, hg2⟩ := h.form (by rw [List.length_map]; omega)
  injection hf with h1 h2 h3
  subst h1 h2 h3
  have hx := h.at i (by rw [List.length_map]; exact hi) 0 (.int .u32 rs[i]) (by
    rw [List.getD_eq_getElem?_getD, List.getElem?_map, List.getElem?_eq_getElem hi]; rfl)
  refine ⟨⟨g', 0, none⟩, rfl, hg2, by show g' ≠ g; omega, fun e => ?_, ?_⟩
  · have := hs _ e
    change g' < B at this
    omega
  · have e1 : (⟨g', i * 1, none⟩ : Addr).add 0 = (⟨g', 0, none⟩ : Addr).add i := by rw [add_own, Nat.mul_one]; rfl
    rw [← e1]
    exact hx
end Go.Proofs.Ytmgphfdieekpdaa
