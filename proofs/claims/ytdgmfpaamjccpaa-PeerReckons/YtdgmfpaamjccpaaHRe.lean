/- PeerReckons. -/
import Derived.Test.YtdgmfpaamjccpaaHCb
import Derived.Test.YtdgmfpaamjccpaaHCc
import Derived.Test.YtdgmfpaamjccpaaHZ
namespace Go.Proofs.Ytdgmfpaamjccpaa
open Go Go.RowKit Go.Sort
set_option maxRecDepth 20000 in
set_option maxHeartbeats 400000 in
theorem ltold_any (t : Td) (w : World) : Calls Try.prog 18 #[.agg (tdL t).toArray] w fun e w' => e = .returned (.agg (tdL t).toArray) ∧ Below w.heap.size w w' := by
  go_enter Try.func18, Try.ntmps18
  refine post_hid fun Q hQ => ?_
  refine seq_hid fun R hR => ?_
  go_wp2
  refine world_hid fun W hW => ?_
  have hB : Below w.heap.size w W := by rw [hW.out]; exact ((Below.refl _ _).alloc (Nat.le_refl _) _).alloc (by simp) _
  have hK : Bk w.heap.size W (tdL t).toArray 60 := by rw [hW.out]; exact (Bk.new w _ _).kept (((Below.refl _ _).alloc (Nat.le_refl _) _).block _ (by simp))
  have HZ : Hid (Bk (w.heap.size + 1) W tdZ 58) := by
    show Bk _ _ _ _
    rw [hW.out]
    have := Bk.new (w.alloc (.cells (tdL t).toArray 60)) tdZ 58
    rw [size_alloc1] at this
    exact this
  have HT : Hid (∀ j u, (tdL t)[j]? = some u → W.cell? ((⟨w.heap.size, 0, none⟩ : Addr).add j) = some u) := cells_of hK
  have HB : Hid (Below w.heap.size w W) := hB
  clear hW hB hK
  rw [hR.out]
  clear hR
  go_wp2_with (first
    | (refine step_ldat 60 _ rfl rfl ⟨w.heap.size, 0, none⟩ (by rfl) (tdL t) _ Try.underlying60 rfl (by kernel_rfl) HT.out ?_)
    | (refine step_stR (by rfl) _ _ rfl (w.heap.size + 1) (tdL t).toArray (by rfl) (by rfl) tdZ (by kernel_rfl) (by kernel_rfl) (tdL_one _) HZ.out ?_))
  rw [hQ.out]
  exact bodyPost_ret (v := .agg (tdL t).toArray) (results_cell_row Try.results18 _ _ (w.heap.size + 1) _ _ (0, 0) _ (by rfl) (setRow_heap _ _ _ _ _ _ HZ.out) Try.underlying58 rfl (by kernel_rfl)) rfl ⟨rfl, below_row HB.out (Nat.le_succ _) _⟩
/-- what was handed in, in the call's first five blocks -/
structure VR (w W : World) (s0 s1 s2 s3 : Int) (q : Pk) (t : Td) (b : Be) (a : As) : Prop where
  below : Below w.heap.size w W
  ar : Bk w.heap.size W #[.int .u64 s0, .int .u64 s1, .int .u64 s2, .int .u64 s3] 24
  pk : Kb W (w.heap.size + 1) q
  td : Bk (w.heap.size + 2) W (tdL t).toArray 60
  be : Bk (w.heap.size + 3) W (beL b).toArray 66
  asc : Bk (w.heap.size + 4) W (asL a).toArray 31
theorem VR.step {w W W' : World} {s0 s1 s2 s3 : Int} {q : Pk} {t : Td} {b : Be} {a : As} (h : VR w W s0 s1 s2 s3 q t b a) (hb : Below W.heap.size W W') : VR w W' s0 s1 s2 s3 q t b a :=
  ⟨h.below.trans (hb.mono h.below.size), h.ar.kept (hb.block _ h.ar.lt), h.pk.kept (hb.block _ h.pk.lt), h.td.kept (hb.block _ h.td.lt), h.be.kept (hb.block _ h.be.lt), h.asc.kept (hb.block _ h.asc.lt)⟩
theorem VR.new (w : World) (s0 s1 s2 s3 : Int) (q : Pk) (t : Td) (b : Be) (a : As) : VR w (((((w.alloc (.cells #[.int .u64 s0, .int .u64 s1, .int .u64 s2, .int .u64 s3] 24)).alloc (.cells (pkC q).toArray 44)).alloc (.cells (tdL t).toArray 60)).alloc (.cells (beL b).toArray 66)).alloc (.cells (asL a).toArray 31)) s0 s1 s2 s3 q t b a := by
  obtain ⟨w1, h1⟩ : ∃ w1, w.alloc (.cells #[.int .u64 s0, .int .u64 s1, .int .u64 s2, .int .u64 s3] 24) = w1 := ⟨_, rfl⟩
  obtain ⟨w2, h2⟩ : ∃ w2, w1.alloc (.cells (pkC q).toArray 44) = w2 := ⟨_, rfl⟩
  obtain ⟨w3, h3⟩ : ∃ w3, w2.alloc (.cells (tdL t).toArray 60) = w3 := ⟨_, rfl⟩
  obtain ⟨w4, h4⟩ : ∃ w4, w3.alloc (.cells (beL b).toArray 66) = w4 := ⟨_, rfl⟩
  rw [h1, h2, h3, h4]
  have s1' : w1.heap.size = w.heap.size + 1 := by rw [← h1]; simp
  have s2' : w2.heap.size = w.heap.size + 2 := by rw [← h2]; simp [s1']
  have s3' : w3.heap.size = w.heap.size + 3 := by rw [← h3]; simp [s2']
  have s4' : w4.heap.size = w.heap.size + 4 := by rw [← h4]; simp [s3']
  have b1 : Below w.heap.size w w1 := by rw [← h1]; exact (Below.refl _ _).alloc (Nat.le_refl _) _
  have b2 : Below w1.heap.size w1 w2 := by rw [← h2]; exact (Below.refl _ _).alloc (Nat.le_refl _) _
  have b3 : Below w2.heap.size w2 w3 := by rw [← h3]; exact (Below.refl _ _).alloc (Nat.le_refl _) _
  have b4 : Below w3.heap.size w3 w4 := by rw [← h4]; exact (Below.refl _ _).alloc (Nat.le_refl _) _
  have b5 : Below w4.heap.size w4 (w4.alloc (.cells (asL a).toArray 31)) := (Below.refl _ _).alloc (Nat.le_refl _) _
  have k1 : Bk w.heap.size w1 #[.int .u64 s0, .int .u64 s1, .int .u64 s2, .int .u64 s3] 24 := by rw [← h1]; exact Bk.new _ _ _
  have k2 : Bk w1.heap.size w2 (pkC q).toArray 44 := by rw [← h2]; exact Bk.new _ _ _
  have k3 : Bk w2.heap.size w3 (tdL t).toArray 60 := by rw [← h3]; exact Bk.new _ _ _
  have k4 : Bk w3.heap.size w4 (beL b).toArray 66 := by rw [← h4]; exact Bk.new _ _ _
  have k5 := Bk.new w4 (asL a).toArray 31
  refine ⟨Below.then (Below.then (Below.then (Below.then b1 b2) b3) b4) b5, (((k1.kept (b2.block _ k1.lt)).kept (b3.block _ (by omega))).kept (b4.block _ (by omega))).kept (b5.block _ (by omega)), ?_, ?_, ?_, ?_⟩
  · rw [← s1']; exact ((k2.kept (b3.block _ k2.lt)).kept (b4.block _ (by omega))).kept (b5.block _ (by omega))
  · rw [← s2']; exact (k3.kept (b4.block _ k3.lt)).kept (b5.block _ (by omega))
  · rw [← s3']; exact k4.kept (b5.block _ k4.lt)
  · rw [← s4']; exact k5
end Go.Proofs.Ytdgmfpaamjccpaa
