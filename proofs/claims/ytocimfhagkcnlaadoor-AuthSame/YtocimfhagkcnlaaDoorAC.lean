/- Auth: the state behind one block more (SHA). -/
import Derived.Test.YtocimfhagkcnlaaDoorAB
namespace Go.Proofs.YtocimfhagkcnlaaDoor
open Go Go.RowKit Go.Sort
set_option linter.unusedVariables false
/-- SHA's constants -/
def kT : List Int := [1116352408, 1899447441, 3049323471, 3921009573, 961987163, 1508970993, 2453635748, 2870763221, 3624381080, 310598401, 607225278, 1426881987, 1925078388, 2162078206, 2614888103, 3248222580, 3835390401, 4022224774, 264347078, 604807628, 770255983, 1249150122, 1555081692, 1996064986, 2554220882, 2821834349, 2952996808, 3210313671, 3336571891, 3584528711, 113926993, 338241895, 666307205, 773529912, 1294757372, 1396182291, 1695183700, 1986661051, 2177026350, 2456956037, 2730485921, 2820302411, 3259730800, 3345764771, 3516065817, 3600352804, 4094571909, 275423344, 430227734, 506948616, 659060556, 883997877, 958139571, 1322822218, 1537002063, 1747873779, 1955562222, 2024104815, 2227730452, 2361852424, 2428436474, 2756734187, 3204031479, 3329325298]
/-- the table of the constants lies where it lay at first -/
def Kt (w : World) : Prop := 0 < w.heap.size ∧ ∀ k, k < 64 → w.cell? ⟨0, k, none⟩ = some (.int .u32 (kT.getD k 0))
theorem Kt.below {B : Nat} {w w' : World} (h : Kt w) (hb : Below B w w') (hB : 0 < B) : Kt w' :=
  ⟨Nat.lt_of_lt_of_le h.1 hb.size, fun k hk => by rw [hb.cell (p := ⟨0, k, none⟩) hB]; exact h.2 k hk⟩
structure S8 where
  a : Int
  b : Int
  c : Int
  d : Int
  e : Int
  f : Int
  g : Int
  h : Int
def s8L (s : S8) : List Int := [s.a, s.b, s.c, s.d, s.e, s.f, s.g, s.h]
def nt (x : Int) : Int := bits .xor .u32 4294967295 x
def rT (s : S8) (K W : Int) : Int := ((((s.h + bits .xor .u32 (bits .xor .u32 (rr s.e 6) (rr s.e 11)) (rr s.e 25)) % 4294967296 + bits .xor .u32 (bits .and .u32 s.e s.f) (bits .and .u32 (nt s.e) s.g)) % 4294967296 + K) % 4294967296 + W) % 4294967296
def rU (s : S8) : Int := (bits .xor .u32 (bits .xor .u32 (rr s.a 2) (rr s.a 13)) (rr s.a 22) + bits .xor .u32 (bits .xor .u32 (bits .and .u32 s.a s.b) (bits .and .u32 s.a s.c)) (bits .and .u32 s.b s.c)) % 4294967296
def rnd (s : S8) (K W : Int) : S8 := ⟨(rT s K W + rU s) % 4294967296, s.a, s.b, s.c, (s.d + rT s K W) % 4294967296, s.e, s.f, s.g⟩
def rnds (ws : List Int) : Nat → S8 → S8
  | 0, s => s
  | n + 1, s => rnd (rnds ws n s) (kT.getD n 0) (ws.getD n 0)
def sum8 (s r : S8) : S8 := ⟨(s.a + r.a) % 4294967296, (s.b + r.b) % 4294967296, (s.c + r.c) % 4294967296, (s.d + r.d) % 4294967296, (s.e + r.e) % 4294967296, (s.f + r.f) % 4294967296, (s.g + r.g) % 4294967296, (s.h + r.h) % 4294967296⟩
def beh (s : S8) (b : List Int) : S8 := sum8 s (rnds (wB b 48) 64 s)
/-- the first so many of the sums, and the others as they were -/
def mx (s r : S8) (j : Nat) : List Int := (s8L (sum8 s r)).take j ++ (s8L s).drop j
theorem inv32 : (if IntKind.u32.signed = true then (-1 : Int) else IntKind.u32.max) = 4294967295 := rfl
/-- where the walk's own blocks lie -/
structure Bw (w wr : World) (p2 : Nat) (cs : Array Value) (BS : Array Value) : Prop where
  b0 : Bk w.heap.size wr cs 49
  b2 : Bk p2 wr #[.int .u32 0, .int .u32 0, .int .u32 0, .int .u32 0, .int .u32 0, .int .u32 0, .int .u32 0, .int .u32 0] 49
  bl : Below w.heap.size w wr
  ne : w.heap.size < p2
theorem Bw.below {w wr w' : World} {p2 : Nat} {cs BS : Array Value} (h : Bw w wr p2 cs BS) (hb : Below wr.heap.size wr w') : Bw w w' p2 cs BS :=
  ⟨h.b0.kept (hb.block _ h.b0.lt), h.b2.kept (hb.block _ h.b2.lt), h.bl.trans (hb.mono h.bl.size), h.ne⟩
theorem Bw.drewN {w wr : World} {p2 : Nat} {cs BS : Array Value} (h : Bw w wr p2 cs BS) (n : Nat) : Bw w (wr.drewN n) p2 cs BS := ⟨h.b0, h.b2, below_dr h.bl n, h.ne⟩
theorem Bw.set {w wr : World} {p2 : Nat} {cs BS : Array Value} (h : Bw w wr p2 cs BS) (k : Nat) (x : Value) : Bw w (wr.setCell ⟨w.heap.size, k, none⟩ x) p2 (cs.setIfInBounds k x) BS :=
  ⟨h.b0.set (j := k) x, bk_far h.b2 (by have := h.ne; omega) x, h.bl.setCell (p := ⟨w.heap.size, k, none⟩) (Nat.le_refl _) _, h.ne⟩
set_option maxRecDepth 20000 in
set_option maxHeartbeats 8000000 in
theorem behind_any (s : S8) (b : List Int) (hb : b.length = 64) (h0 : ∀ x ∈ b, 0 ≤ x ∧ x < 256) (w : World) (hk : Kt w) :
    Calls Tryd.prog 28 #[.agg #[.int .u32 s.a, .int .u32 s.b, .int .u32 s.c, .int .u32 s.d, .int .u32 s.e, .int .u32 s.f, .int .u32 s.g, .int .u32 s.h], .agg (by' b).toArray] w fun e w' => e = .returned (.agg (wd (s8L (beh s b))).toArray) ∧ Below w.heap.size w w' := by
  have HB : Hid (b.length = 64 ∧ ∀ x ∈ b, 0 ≤ x ∧ x < 256) := ⟨hb, h0⟩
  have HK : Hid (Kt w) := hk
  obtain ⟨BS, hBS⟩ : ∃ BS, (by' b).toArray = BS := ⟨_, rfl⟩
  obtain ⟨cs, hcs⟩ : ∃ cs, cs = (wd (wB b 48)).toArray := ⟨_, rfl⟩
  have HCS : Hid (cs = (wd (wB b 48)).toArray ∧ cs.size = 64 ∧ (Tryd.prog.info? 87).map (·.size) = some cs.size ∧ cs.all (·.oneCell') = true) := by
    have hz : cs.size = 64 := by rw [hcs, List.size_toArray, wd_len, wB_len]
    exact ⟨hcs, hz, by rw [hz]; kernel_rfl, by rw [hcs]; exact wd_one _⟩
  have HSW : Hid (∀ u, Calls Tryd.prog 57 #[.agg BS] u fun e w' => e = .returned (.agg cs) ∧ Below u.heap.size u w') := fun u => by rw [← hBS, hcs]; exact shaWords_any b hb h0 u
  have HBS : Hid (BS.size = 64 ∧ (Tryd.prog.info? 51).map (·.size) = some BS.size) := by
    have hz : BS.size = 64 := by rw [← hBS, List.size_toArray, by_len, hb]
    exact ⟨hz, by rw [hz]; kernel_rfl⟩
  rw [hBS]
  clear hBS hcs hb h0 hk
  go_enter Tryd.func28, Tryd.ntmps28
  refine post_hid fun Q hQ => ?_
  refine seq_hid fun R0 hR0 => ?_
  go_wp2_with fail
  obtain ⟨p2, hp2⟩ : ∃ p, p = w.heap.size + 1 + 1 := ⟨_, rfl⟩
  rw [← hp2]
  obtain ⟨W0, hW0⟩ : ∃ W, W = ((w.alloc (.cells #[.int .u32 s.a, .int .u32 s.b, .int .u32 s.c, .int .u32 s.d, .int .u32 s.e, .int .u32 s.f, .int .u32 s.g, .int .u32 s.h] 49)).alloc (.cells BS 51)).alloc (.cells #[.int .u32 0, .int .u32 0, .int .u32 0, .int .u32 0, .int .u32 0, .int .u32 0, .int .u32 0, .int .u32 0] 49) := ⟨_, rfl⟩
  have K0 : Hid (Bw w W0 p2 #[.int .u32 s.a, .int .u32 s.b, .int .u32 s.c, .int .u32 s.d, .int .u32 s.e, .int .u32 s.f, .int .u32 s.g, .int .u32 s.h] BS ∧ Bk (w.heap.size + 1) W0 BS 51 ∧ W0.heap.size = w.heap.size + 3) := by
    rw [hW0]
    refine ⟨⟨bk_alloc (bk_alloc (Bk.new w _ _) _) _, ?_, (((Below.refl _ _).alloc (Nat.le_refl _) _).alloc (by simp) _).alloc (by simp; omega) _, by omega⟩, ?_, by simp⟩
    · have := Bk.new ((w.alloc (.cells #[.int .u32 s.a, .int .u32 s.b, .int .u32 s.c, .int .u32 s.d, .int .u32 s.e, .int .u32 s.f, .int .u32 s.g, .int .u32 s.h] 49)).alloc (.cells BS 51)) #[.int .u32 0, .int .u32 0, .int .u32 0, .int .u32 0, .int .u32 0, .int .u32 0, .int .u32 0, .int .u32 0] 49
      rw [hp2]
      simpa using this
    · have := Bk.new (w.alloc (.cells #[.int .u32 s.a, .int .u32 s.b, .int .u32 s.c, .int .u32 s.d, .int .u32 s.e, .int .u32 s.f, .int .u32 s.g, .int .u32 s.h] 49)) BS 51
      exact bk_alloc (by simpa using this) _
  rw [← hW0, hR0.out]
  clear hW0 hR0 hp2
  refine seq_hid fun R1 hR1 => ?_
  go_wp2_with (refine step_lda (by rfl) _ (by rfl) Tryd.underlying51 (w.heap.size + 1) (by rfl) BS K0.out.2.1 HBS.out.2 ?_)
  refine (HSW.out _).mono ?_
  rintro e' w4 ⟨rfl, hb4⟩
  have K4 : Hid (Bw w w4 p2 #[.int .u32 s.a, .int .u32 s.b, .int .u32 s.c, .int .u32 s.d, .int .u32 s.e, .int .u32 s.f, .int .u32 s.g, .int .u32 s.h] BS) := K0.out.1.below hb4
  clear hb4 K0
  have HN : Hid ((w4.alloc (.cells #[.int .u32 0, .int .u32 0, .int .u32 0, .int .u32 0, .int .u32 0, .int .u32 0, .int .u32 0, .int .u32 0, .int .u32 0, .int .u32 0, .int .u32 0, .int .u32 0, .int .u32 0, .int .u32 0, .int .u32 0, .int .u32 0, .int .u32 0, .int .u32 0, .int .u32 0, .int .u32 0, .int .u32 0, .int .u32 0, .int .u32 0, .int .u32 0, .int .u32 0, .int .u32 0, .int .u32 0, .int .u32 0, .int .u32 0, .int .u32 0, .int .u32 0, .int .u32 0, .int .u32 0, .int .u32 0, .int .u32 0, .int .u32 0, .int .u32 0, .int .u32 0, .int .u32 0, .int .u32 0, .int .u32 0, .int .u32 0, .int .u32 0, .int .u32 0, .int .u32 0, .int .u32 0, .int .u32 0, .int .u32 0, .int .u32 0, .int .u32 0, .int .u32 0, .int .u32 0, .int .u32 0, .int .u32 0, .int .u32 0, .int .u32 0, .int .u32 0, .int .u32 0, .int .u32 0, .int .u32 0, .int .u32 0, .int .u32 0, .int .u32 0, .int .u32 0] 87)).heap[w4.heap.size]? = some (.cells #[.int .u32 0, .int .u32 0, .int .u32 0, .int .u32 0, .int .u32 0, .int .u32 0, .int .u32 0, .int .u32 0, .int .u32 0, .int .u32 0, .int .u32 0, .int .u32 0, .int .u32 0, .int .u32 0, .int .u32 0, .int .u32 0, .int .u32 0, .int .u32 0, .int .u32 0, .int .u32 0, .int .u32 0, .int .u32 0, .int .u32 0, .int .u32 0, .int .u32 0, .int .u32 0, .int .u32 0, .int .u32 0, .int .u32 0, .int .u32 0, .int .u32 0, .int .u32 0, .int .u32 0, .int .u32 0, .int .u32 0, .int .u32 0, .int .u32 0, .int .u32 0, .int .u32 0, .int .u32 0, .int .u32 0, .int .u32 0, .int .u32 0, .int .u32 0, .int .u32 0, .int .u32 0, .int .u32 0, .int .u32 0, .int .u32 0, .int .u32 0, .int .u32 0, .int .u32 0, .int .u32 0, .int .u32 0, .int .u32 0, .int .u32 0, .int .u32 0, .int .u32 0, .int .u32 0, .int .u32 0, .int .u32 0, .int .u32 0, .int .u32 0, .int .u32 0] 87 (0, 0))) := heap_alloc_new w4 _
  go_wp2_with (refine step_stR (T := 87) (by rfl) _ _ (by rfl) w4.heap.size cs (by rfl) (by rfl) #[.int .u32 0, .int .u32 0, .int .u32 0, .int .u32 0, .int .u32 0, .int .u32 0, .int .u32 0, .int .u32 0, .int .u32 0, .int .u32 0, .int .u32 0, .int .u32 0, .int .u32 0, .int .u32 0, .int .u32 0, .int .u32 0, .int .u32 0, .int .u32 0, .int .u32 0, .int .u32 0, .int .u32 0, .int .u32 0, .int .u32 0, .int .u32 0, .int .u32 0, .int .u32 0, .int .u32 0, .int .u32 0, .int .u32 0, .int .u32 0, .int .u32 0, .int .u32 0, .int .u32 0, .int .u32 0, .int .u32 0, .int .u32 0, .int .u32 0, .int .u32 0, .int .u32 0, .int .u32 0, .int .u32 0, .int .u32 0, .int .u32 0, .int .u32 0, .int .u32 0, .int .u32 0, .int .u32 0, .int .u32 0, .int .u32 0, .int .u32 0, .int .u32 0, .int .u32 0, .int .u32 0, .int .u32 0, .int .u32 0, .int .u32 0, .int .u32 0, .int .u32 0, .int .u32 0, .int .u32 0, .int .u32 0, .int .u32 0, .int .u32 0, .int .u32 0] HCS.out.2.2.1 ?_ HCS.out.2.2.2 HN.out ?_; focus (rw [HCS.out.2.1]; rfl))
  rw [hR1.out]
  clear hR1
  obtain ⟨W5, hW5⟩ : ∃ W, W = (w4.alloc (.cells #[.int .u32 0, .int .u32 0, .int .u32 0, .int .u32 0, .int .u32 0, .int .u32 0, .int .u32 0, .int .u32 0, .int .u32 0, .int .u32 0, .int .u32 0, .int .u32 0, .int .u32 0, .int .u32 0, .int .u32 0, .int .u32 0, .int .u32 0, .int .u32 0, .int .u32 0, .int .u32 0, .int .u32 0, .int .u32 0, .int .u32 0, .int .u32 0, .int .u32 0, .int .u32 0, .int .u32 0, .int .u32 0, .int .u32 0, .int .u32 0, .int .u32 0, .int .u32 0, .int .u32 0, .int .u32 0, .int .u32 0, .int .u32 0, .int .u32 0, .int .u32 0, .int .u32 0, .int .u32 0, .int .u32 0, .int .u32 0, .int .u32 0, .int .u32 0, .int .u32 0, .int .u32 0, .int .u32 0, .int .u32 0, .int .u32 0, .int .u32 0, .int .u32 0, .int .u32 0, .int .u32 0, .int .u32 0, .int .u32 0, .int .u32 0, .int .u32 0, .int .u32 0, .int .u32 0, .int .u32 0, .int .u32 0, .int .u32 0, .int .u32 0, .int .u32 0] 87)).setRow w4.heap.size cs := ⟨_, rfl⟩
  obtain ⟨p5, hp5⟩ : ∃ p, p = w4.heap.size := ⟨_, rfl⟩
  have K5 : Hid (Bw w W5 p2 #[.int .u32 s.a, .int .u32 s.b, .int .u32 s.c, .int .u32 s.d, .int .u32 s.e, .int .u32 s.f, .int .u32 s.g, .int .u32 s.h] BS ∧ Bk p5 W5 cs 87 ∧ Kt W5) := by
    have hl0 := K4.out.b0.lt
    have hl2 := K4.out.b2.lt
    have hb : Below w.heap.size w W5 := by rw [hW5]; exact below_row (K4.out.bl.alloc (by omega) _) (by omega) _
    refine ⟨⟨?_, ?_, hb, K4.out.ne⟩, ?_, ?_⟩
    · rw [hW5]; exact bk_row (bk_alloc K4.out.b0 _) (by omega)
    · rw [hW5]; exact bk_row (bk_alloc K4.out.b2 _) (by omega)
    · rw [hW5, hp5]; exact (Bk.new w4 _ _).row cs
    · exact HK.out.below hb HK.out.1
  rw [← hW5, ← hp5]
  clear hW5 hp5 K4 HN HSW
  refine seq_hid fun R2 hR2 => ?_
  have x0 : ∀ u, Sem.run Tryd.prog (Instr.indexAt 49 (.pointer (some ⟨w.heap.size, 0, none⟩)) (.int .i64 0)) u = .ok (.pointer (some ⟨w.heap.size, 0, none⟩)) u := aidxW Tryd.underlying49 w.heap.size 0 (by decide)
  have c0 : W5.cell? ⟨w.heap.size, 0, none⟩ = some (.int .u32 s.a) := K5.out.1.b0.cell 0
  have x1 : ∀ u, Sem.run Tryd.prog (Instr.indexAt 49 (.pointer (some ⟨w.heap.size, 0, none⟩)) (.int .i64 1)) u = .ok (.pointer (some ⟨w.heap.size, 1, none⟩)) u := aidxW Tryd.underlying49 w.heap.size 1 (by decide)
  have c1 : W5.cell? ⟨w.heap.size, 1, none⟩ = some (.int .u32 s.b) := K5.out.1.b0.cell 1
  have x2 : ∀ u, Sem.run Tryd.prog (Instr.indexAt 49 (.pointer (some ⟨w.heap.size, 0, none⟩)) (.int .i64 2)) u = .ok (.pointer (some ⟨w.heap.size, 2, none⟩)) u := aidxW Tryd.underlying49 w.heap.size 2 (by decide)
  have c2 : W5.cell? ⟨w.heap.size, 2, none⟩ = some (.int .u32 s.c) := K5.out.1.b0.cell 2
  have x3 : ∀ u, Sem.run Tryd.prog (Instr.indexAt 49 (.pointer (some ⟨w.heap.size, 0, none⟩)) (.int .i64 3)) u = .ok (.pointer (some ⟨w.heap.size, 3, none⟩)) u := aidxW Tryd.underlying49 w.heap.size 3 (by decide)
  have c3 : W5.cell? ⟨w.heap.size, 3, none⟩ = some (.int .u32 s.d) := K5.out.1.b0.cell 3
  have x4 : ∀ u, Sem.run Tryd.prog (Instr.indexAt 49 (.pointer (some ⟨w.heap.size, 0, none⟩)) (.int .i64 4)) u = .ok (.pointer (some ⟨w.heap.size, 4, none⟩)) u := aidxW Tryd.underlying49 w.heap.size 4 (by decide)
  have c4 : W5.cell? ⟨w.heap.size, 4, none⟩ = some (.int .u32 s.e) := K5.out.1.b0.cell 4
  have x5 : ∀ u, Sem.run Tryd.prog (Instr.indexAt 49 (.pointer (some ⟨w.heap.size, 0, none⟩)) (.int .i64 5)) u = .ok (.pointer (some ⟨w.heap.size, 5, none⟩)) u := aidxW Tryd.underlying49 w.heap.size 5 (by decide)
  have c5 : W5.cell? ⟨w.heap.size, 5, none⟩ = some (.int .u32 s.f) := K5.out.1.b0.cell 5
  have x6 : ∀ u, Sem.run Tryd.prog (Instr.indexAt 49 (.pointer (some ⟨w.heap.size, 0, none⟩)) (.int .i64 6)) u = .ok (.pointer (some ⟨w.heap.size, 6, none⟩)) u := aidxW Tryd.underlying49 w.heap.size 6 (by decide)
  have c6 : W5.cell? ⟨w.heap.size, 6, none⟩ = some (.int .u32 s.g) := K5.out.1.b0.cell 6
  have x7 : ∀ u, Sem.run Tryd.prog (Instr.indexAt 49 (.pointer (some ⟨w.heap.size, 0, none⟩)) (.int .i64 7)) u = .ok (.pointer (some ⟨w.heap.size, 7, none⟩)) u := aidxW Tryd.underlying49 w.heap.size 7 (by decide)
  have c7 : W5.cell? ⟨w.heap.size, 7, none⟩ = some (.int .u32 s.h) := K5.out.1.b0.cell 7
  go_wp2_with fail
  refine wp_region_quietW (by kernel_rfl) (by kernel_rfl) ?_
  repeat (refine qw_step (fun K hK => ?_); go_simp; (refine hK _ ?_; clear hK K))
  refine qw_nil ?_
  intro _ hw'
  obtain ⟨nq, hw''⟩ := hw'
  subst hw''
  obtain ⟨W6, hW6⟩ : ∃ W, W = W5.drewN nq := ⟨_, rfl⟩
  have K6 : Hid (Bw w W6 p2 #[.int .u32 s.a, .int .u32 s.b, .int .u32 s.c, .int .u32 s.d, .int .u32 s.e, .int .u32 s.f, .int .u32 s.g, .int .u32 s.h] BS ∧ Bk p5 W6 cs 87 ∧ Kt W6) := by
    rw [hW6]
    exact ⟨K5.out.1.drewN nq, K5.out.2.1, K5.out.2.2⟩
  rw [← hW6]
  clear hW6 K5 c0 c1 c2 c3 c4 c5 c6 c7
  go_wp2_with fail
  rw [hR2.out]
  clear hR2
  refine seq_hid fun RL hRL => ?_
  go_wp2_with (refine step_lda (by rfl) _ (by rfl) Tryd.underlying87 p5 (by rfl) cs K6.out.2.1 HCS.out.2.2.1 ?_)
  have K7 : Hid (Bw w W6 p2 #[.int .u32 s.a, .int .u32 s.b, .int .u32 s.c, .int .u32 s.d, .int .u32 s.e, .int .u32 s.f, .int .u32 s.g, .int .u32 s.h] BS ∧ Kt W6) := ⟨K6.out.1, K6.out.2.2⟩
  clear K6
  go_loopw [6, 7, 8, 9, 10, 11, 12, 13, 39] (fun va vb vc vd ve vf vg vh i wr => ∃ (k : Nat) (KI : Int) (r : S8), va = .int .u32 r.a ∧ vb = .int .u32 r.b ∧ vc = .int .u32 r.c ∧ vd = .int .u32 r.d ∧ ve = .int .u32 r.e ∧ vf = .int .u32 r.f ∧ vg = .int .u32 r.g ∧ vh = .int .u32 r.h ∧ i = .int .i64 KI ∧ 0 ≤ KI ∧ KI ≤ 64 ∧ Hid (KI = (k : Int) ∧ r = rnds (wB b 48) k s ∧ Bw w wr p2 #[.int .u32 s.a, .int .u32 s.b, .int .u32 s.c, .int .u32 s.d, .int .u32 s.e, .int .u32 s.f, .int .u32 s.g, .int .u32 s.h] BS ∧ Kt wr)) (fun _ _ _ _ _ _ _ _ i _ => (64 - intOf i).toNat)
  case atStart => exact ⟨0, 0, s, rfl, rfl, rfl, rfl, rfl, rfl, rfl, rfl, rfl, by omega, by omega, rfl, rfl, K7.out⟩
  case round =>
    clear K7
    obtain ⟨k, KI, r, rfl, rfl, rfl, rfl, rfl, rfl, rfl, rfl, rfl, k0, k1, hK⟩ := hrel
    by_cases hlt : KI < 64
    · have hk64 : k < 64 := by have := hK.out.1; omega
      obtain ⟨WK, hWK⟩ : ∃ x, x = (wB b 48).getD k 0 := ⟨_, rfl⟩
      obtain ⟨KK, hKK⟩ : ∃ x, x = kT.getD k 0 := ⟨_, rfl⟩
      have hiv : ∀ u, Sem.run Tryd.prog (Instr.index 87 (.agg cs) (.int .i64 KI)) u = .ok (.int .u32 WK) u := fun u => by
        rw [hK.out.1, hWK]
        exact vidxW Tryd.underlying87 cs k _ (by omega) (by rw [HCS.out.1]; exact wd_get _ _ (by rw [wB_len]; exact hk64)) u
      have hix : ∀ u, Sem.run Tryd.prog (Instr.indexAt 87 (.pointer (some ⟨0, 0, none⟩)) (.int .i64 KI)) u = .ok (.pointer (some ⟨0, k, none⟩)) u := fun u => by rw [hK.out.1]; exact aidxW Tryd.underlying87 _ k (by omega) u
      have ck : wr.cell? ⟨0, k, none⟩ = some (.int .u32 KK) := by rw [hKK]; exact hK.out.2.2.2.2 k hk64
      have HR : Hid (rnds (wB b 48) (k + 1) s = rnd r KK WK) := by show _ = _; rw [rnds, ← hK.out.2.1, hKK, hWK]
      clear hWK hKK hk64
      go_wp2_with fail
      refine wp_region_quietW (by kernel_rfl) (by kernel_rfl) ?_
      repeat (refine qw_step (fun K hK => ?_); go_simp; first | (refine hK _ ?_; clear hK K) | (apply Exists.intro; refine ⟨fun _ => ?_, hK _ ?_⟩; (go_at_call 58; exact Calls.quiet_of_same (right_I _ _ (by decide) (by decide) _)); clear hK K))
      refine qw_nil ?_
      intro _ hw'
      obtain ⟨nq, hw''⟩ := hw'
      subst hw''
      obtain ⟨W8, hW8⟩ : ∃ W, W = wr.drewN nq := ⟨_, rfl⟩
      have K8 : Hid (Bw w W8 p2 #[.int .u32 s.a, .int .u32 s.b, .int .u32 s.c, .int .u32 s.d, .int .u32 s.e, .int .u32 s.f, .int .u32 s.g, .int .u32 s.h] BS ∧ Kt W8) := by rw [hW8]; exact ⟨hK.out.2.2.1.drewN nq, hK.out.2.2.2⟩
      rw [← hW8]
      clear hW8 ck
      go_wp2_with (go_at_call 58; refine (right_I _ _ (by decide) (by decide) _).mono ?_; rintro e' w9 ⟨rfl, hw9⟩; rw [hw9]; clear hw9)
      refine ⟨⟨k + 1, KI + 1, rnd r KK WK, ?_, ?_, ?_, ?_, ?_, ?_, ?_, ?_, rfl, by omega, by omega, by have := hK.out.1; omega, HR.out.symm, K8.out⟩, by simp [intOf]; omega⟩
      all_goals
        unfold rnd rT rU nt
        first
        | rfl
        | (simp only [inv32]; rfl)
        | (simp [inv32]; done)
    · obtain ⟨rs, hrs⟩ : ∃ rs, rs = rnds (wB b 48) 64 s := ⟨_, rfl⟩
      have KE : Hid (r = rnds (wB b 48) 64 s ∧ Bw w wr p2 #[.int .u32 s.a, .int .u32 s.b, .int .u32 s.c, .int .u32 s.d, .int .u32 s.e, .int .u32 s.f, .int .u32 s.g, .int .u32 s.h] BS ∧ Kt wr) := by
        have e : k = 64 := by have := hK.out.1; omega
        have := hK.out.2
        rw [e] at this
        exact this
      clear hK hrs
      go_wp2_with fail
      rw [hRL.out]
      clear hRL
      have K0 : Hid (Bw w wr p2 (wd (mx s r 0)).toArray BS) := KE.out.2.1
      have i0 : ∀ (y0 y1 y2 y3 y4 y5 y6 y7 : Value) u, (Instr.index 48 (.agg #[y0, y1, y2, y3, y4, y5, y6, y7]) (.int .i64 0)).run Tryd.prog u = .ok y0 u := fun _ _ _ _ _ _ _ _ _ => by kernel_rfl
      have i1 : ∀ (y0 y1 y2 y3 y4 y5 y6 y7 : Value) u, (Instr.index 48 (.agg #[y0, y1, y2, y3, y4, y5, y6, y7]) (.int .i64 1)).run Tryd.prog u = .ok y1 u := fun _ _ _ _ _ _ _ _ _ => by kernel_rfl
      have i2 : ∀ (y0 y1 y2 y3 y4 y5 y6 y7 : Value) u, (Instr.index 48 (.agg #[y0, y1, y2, y3, y4, y5, y6, y7]) (.int .i64 2)).run Tryd.prog u = .ok y2 u := fun _ _ _ _ _ _ _ _ _ => by kernel_rfl
      have i3 : ∀ (y0 y1 y2 y3 y4 y5 y6 y7 : Value) u, (Instr.index 48 (.agg #[y0, y1, y2, y3, y4, y5, y6, y7]) (.int .i64 3)).run Tryd.prog u = .ok y3 u := fun _ _ _ _ _ _ _ _ _ => by kernel_rfl
      have i4 : ∀ (y0 y1 y2 y3 y4 y5 y6 y7 : Value) u, (Instr.index 48 (.agg #[y0, y1, y2, y3, y4, y5, y6, y7]) (.int .i64 4)).run Tryd.prog u = .ok y4 u := fun _ _ _ _ _ _ _ _ _ => by kernel_rfl
      have i5 : ∀ (y0 y1 y2 y3 y4 y5 y6 y7 : Value) u, (Instr.index 48 (.agg #[y0, y1, y2, y3, y4, y5, y6, y7]) (.int .i64 5)).run Tryd.prog u = .ok y5 u := fun _ _ _ _ _ _ _ _ _ => by kernel_rfl
      have i6 : ∀ (y0 y1 y2 y3 y4 y5 y6 y7 : Value) u, (Instr.index 48 (.agg #[y0, y1, y2, y3, y4, y5, y6, y7]) (.int .i64 6)).run Tryd.prog u = .ok y6 u := fun _ _ _ _ _ _ _ _ _ => by kernel_rfl
      have i7 : ∀ (y0 y1 y2 y3 y4 y5 y6 y7 : Value) u, (Instr.index 48 (.agg #[y0, y1, y2, y3, y4, y5, y6, y7]) (.int .i64 7)).run Tryd.prog u = .ok y7 u := fun _ _ _ _ _ _ _ _ _ => by kernel_rfl
      refine seq_hid fun RM hRM => ?_
      go_wp2_with fail
      go_loopw [110] (fun i w2 => ∃ (j : Nat) (JI : Int), i = .int .i64 JI ∧ JI = (j : Int) ∧ j ≤ 8 ∧ Hid (Bw w w2 p2 (wd (mx s r j)).toArray BS)) (fun i _ => (8 - intOf i).toNat)
      case atStart => exact ⟨0, 0, rfl, rfl, by omega, K0.out⟩
      case round =>
      clear K0
      obtain ⟨j, JI, rfl, hJI, hj, hJ⟩ := hrel
      obtain ⟨wa, rfl⟩ : ∃ wa, wa = wr := ⟨_, rfl⟩
      subst hJI
      rcases (show j = 0 ∨ j = 1 ∨ j = 2 ∨ j = 3 ∨ j = 4 ∨ j = 5 ∨ j = 6 ∨ j = 7 ∨ j = 8 by omega) with rfl | rfl | rfl | rfl | rfl | rfl | rfl | rfl | rfl
      · have c0 : wa.cell? ⟨w.heap.size, 0, none⟩ = some (.int .u32 s.a) := hJ.out.b0.cell 0
        have f0 : wa.frozen? ⟨w.heap.size, 0, none⟩ = false := hJ.out.b0.frozen 0
        have KN : Hid (Bw w (wa.setCell ⟨w.heap.size, 0, none⟩ (.int .u32 ((s.a + r.a) % 4294967296))) p2 (wd (mx s r 1)).toArray BS) := hJ.out.set 0 _
        clear hJ
        go_wp2_with fail
        exact ⟨⟨1, 1, rfl, rfl, by omega, KN.out⟩, by simp [intOf]⟩
      · have c1 : wa.cell? ⟨w.heap.size, 1, none⟩ = some (.int .u32 s.b) := hJ.out.b0.cell 1
        have f1 : wa.frozen? ⟨w.heap.size, 1, none⟩ = false := hJ.out.b0.frozen 1
        have KN : Hid (Bw w (wa.setCell ⟨w.heap.size, 1, none⟩ (.int .u32 ((s.b + r.b) % 4294967296))) p2 (wd (mx s r 2)).toArray BS) := hJ.out.set 1 _
        clear hJ
        go_wp2_with fail
        exact ⟨⟨2, 2, rfl, rfl, by omega, KN.out⟩, by simp [intOf]⟩
      · have c2 : wa.cell? ⟨w.heap.size, 2, none⟩ = some (.int .u32 s.c) := hJ.out.b0.cell 2
        have f2 : wa.frozen? ⟨w.heap.size, 2, none⟩ = false := hJ.out.b0.frozen 2
        have KN : Hid (Bw w (wa.setCell ⟨w.heap.size, 2, none⟩ (.int .u32 ((s.c + r.c) % 4294967296))) p2 (wd (mx s r 3)).toArray BS) := hJ.out.set 2 _
        clear hJ
        go_wp2_with fail
        exact ⟨⟨3, 3, rfl, rfl, by omega, KN.out⟩, by simp [intOf]⟩
      · have c3 : wa.cell? ⟨w.heap.size, 3, none⟩ = some (.int .u32 s.d) := hJ.out.b0.cell 3
        have f3 : wa.frozen? ⟨w.heap.size, 3, none⟩ = false := hJ.out.b0.frozen 3
        have KN : Hid (Bw w (wa.setCell ⟨w.heap.size, 3, none⟩ (.int .u32 ((s.d + r.d) % 4294967296))) p2 (wd (mx s r 4)).toArray BS) := hJ.out.set 3 _
        clear hJ
        go_wp2_with fail
        exact ⟨⟨4, 4, rfl, rfl, by omega, KN.out⟩, by simp [intOf]⟩
      · have c4 : wa.cell? ⟨w.heap.size, 4, none⟩ = some (.int .u32 s.e) := hJ.out.b0.cell 4
        have f4 : wa.frozen? ⟨w.heap.size, 4, none⟩ = false := hJ.out.b0.frozen 4
        have KN : Hid (Bw w (wa.setCell ⟨w.heap.size, 4, none⟩ (.int .u32 ((s.e + r.e) % 4294967296))) p2 (wd (mx s r 5)).toArray BS) := hJ.out.set 4 _
        clear hJ
        go_wp2_with fail
        exact ⟨⟨5, 5, rfl, rfl, by omega, KN.out⟩, by simp [intOf]⟩
      · have c5 : wa.cell? ⟨w.heap.size, 5, none⟩ = some (.int .u32 s.f) := hJ.out.b0.cell 5
        have f5 : wa.frozen? ⟨w.heap.size, 5, none⟩ = false := hJ.out.b0.frozen 5
        have KN : Hid (Bw w (wa.setCell ⟨w.heap.size, 5, none⟩ (.int .u32 ((s.f + r.f) % 4294967296))) p2 (wd (mx s r 6)).toArray BS) := hJ.out.set 5 _
        clear hJ
        go_wp2_with fail
        exact ⟨⟨6, 6, rfl, rfl, by omega, KN.out⟩, by simp [intOf]⟩
      · have c6 : wa.cell? ⟨w.heap.size, 6, none⟩ = some (.int .u32 s.g) := hJ.out.b0.cell 6
        have f6 : wa.frozen? ⟨w.heap.size, 6, none⟩ = false := hJ.out.b0.frozen 6
        have KN : Hid (Bw w (wa.setCell ⟨w.heap.size, 6, none⟩ (.int .u32 ((s.g + r.g) % 4294967296))) p2 (wd (mx s r 7)).toArray BS) := hJ.out.set 6 _
        clear hJ
        go_wp2_with fail
        exact ⟨⟨7, 7, rfl, rfl, by omega, KN.out⟩, by simp [intOf]⟩
      · have c7 : wa.cell? ⟨w.heap.size, 7, none⟩ = some (.int .u32 s.h) := hJ.out.b0.cell 7
        have f7 : wa.frozen? ⟨w.heap.size, 7, none⟩ = false := hJ.out.b0.frozen 7
        have KN : Hid (Bw w (wa.setCell ⟨w.heap.size, 7, none⟩ (.int .u32 ((s.h + r.h) % 4294967296))) p2 (wd (mx s r 8)).toArray BS) := hJ.out.set 7 _
        clear hJ
        go_wp2_with fail
        exact ⟨⟨8, 8, rfl, rfl, by omega, KN.out⟩, by simp [intOf]⟩
      · go_wp2_with fail
        rw [hRM.out]
        clear hRM
        have HI : Hid ((Tryd.prog.info? 49).map (·.size) = some (wd (mx s r 8)).toArray.size ∧ (wd (mx s r 8)).toArray.all (·.oneCell') = true) := ⟨by kernel_rfl, wd_one _⟩
        have HB2 : Hid (wa.heap[p2]? = some (.cells #[.int .u32 0, .int .u32 0, .int .u32 0, .int .u32 0, .int .u32 0, .int .u32 0, .int .u32 0, .int .u32 0] 49 (0, 0))) := hJ.out.b2
        go_wp2_with (first | (refine step_lda (by rfl) _ (by rfl) Tryd.underlying49 w.heap.size (by rfl) (wd (mx s r 8)).toArray hJ.out.b0 HI.out.1 ?_) | (refine step_stR (T := 49) (by rfl) _ _ (by rfl) p2 (wd (mx s r 8)).toArray (by rfl) (by rfl) #[.int .u32 0, .int .u32 0, .int .u32 0, .int .u32 0, .int .u32 0, .int .u32 0, .int .u32 0, .int .u32 0] HI.out.1 ?_ HI.out.2 HB2.out ?_; focus rfl))
        rw [hQ.out]
        refine bodyPost_ret (v := .agg (wd (s8L (beh s b))).toArray) ?_ rfl ⟨rfl, below_row hJ.out.bl (by have := hJ.out.ne; omega) _⟩
        rw [show (wd (s8L (beh s b))).toArray = (wd (mx s r 8)).toArray by unfold beh; rw [← KE.out.1]; rfl]
        exact res_arr Tryd.results28 Tryd.underlying49 _ _ p2 _ (by rfl) (hJ.out.b2.row _) HI.out.1
end Go.Proofs.YtocimfhagkcnlaaDoor
