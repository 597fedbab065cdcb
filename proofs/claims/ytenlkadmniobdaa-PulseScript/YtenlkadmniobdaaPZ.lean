/- Both lines, side by side. -/
import Derived.Test.YtenlkadmniobdaaPY
import Derived.Test.YtenlkadmniobdaaPZa
import Derived.Test.YtenlkadmniobdaaPK
namespace Go.Proofs.Ytenlkadmniobdaa
open Go.RowKit
/-- how many were taken -/
def mS (es : List Int) (m la t : Int) : Int := if tkB es (decide (0 < m)) la t then m + 1 else m
theorem mS_bd (es : List Int) (m la t : Int) : m ≤ mS es m la t ∧ mS es m la t ≤ m + 1 := by unfold mS; split <;> omega
/-- the program's line, by how many edges were taken -/
def Lm (w : World) (p : Nat) (es : List Int) (m la : Int) : Prop := Ln w p es (decide (0 < m)) la (tnR 4607182418800017408 0 m) (tnI 4607182418800017408 0 m)
theorem sedge {w : World} {p : Nat} {es : List Int} {m la : Int} (t : Int) (h : Lm w p es m la) (hm : 0 ≤ m) :
    Calls Try.prog 19 #[.pointer (some ⟨p, 0, none⟩), .int .u64 t] w fun e w' => e = .returned (.bool (tkB es (decide (0 < m)) la t)) ∧ Lm w' p (egE es (decide (0 < m)) la t) (mS es m la t) (egL es (decide (0 < m)) la t) ∧ w.grownBy w' (some p) := by
  have q := edge_any p es (decide (0 < m)) la t _ _ w h
  refine q.mono ?_
  rintro e w' ⟨rfl, hL, hg⟩
  refine ⟨rfl, ?_, hg⟩
  unfold Lm mS
  have tt := tn_tn 4607182418800017408 0 m 1 (m + 1) rfl
  rcases hb : tkB es (decide (0 < m)) la t with _ | _
  · rw [hb, Bool.or_false] at hL
    exact hL
  · rw [hb, Bool.or_true, if_pos rfl, if_pos rfl, tt.1, tt.2] at hL
    rw [if_pos rfl, decide_eq_true (show 0 < m + 1 by omega)]
    exact hL
theorem rsedge {w : World} {q B : Nat} {bo : Option Nat} {es : List Int} {m la : Int} (t : Int) (h : Rl w q B bo es m la) (hm0 : 0 ≤ m) (hm1 : m ≤ 9000000000000000000) :
    Calls Try.prog 20 #[.pointer (some ⟨q, 0, none⟩), .int .u64 t] w fun e w' => e = .returned (.bool (tkB es (decide (0 < m)) la t)) ∧ ∃ bo', Rl w' q B bo' (egE es (decide (0 < m)) la t) (mS es m la t) (egL es (decide (0 < m)) la t) ∧ Fq q bo w w' ∧ (bo' = bo ∨ ∃ g, bo' = some g ∧ w.heap.size ≤ g) := redge_any t h hm0 hm1
/-- both lines, in one world -/
structure Bt (w0 : World) (p q B : Nat) (bo : Option Nat) (es : List Int) (m la : Int) (w : World) : Prop where
  ln : Lm w p es m la
  rl : Rl w q B bo es m la
  m0 : 0 ≤ m
  pq : p < q
  low : w0.heap.size ≤ p
  bel : Below w0.heap.size w0 w
theorem Bt.grownP {w0 w w' : World} {p q B : Nat} {bo : Option Nat} {es : List Int} {m la : Int} (h : Bt w0 p q B bo es m la w) (hg : w.grownBy w' (some p)) : Rl w' q B bo es m la ∧ Below w0.heap.size w0 w' := by
  have hB := h.rl.1
  obtain ⟨_, _, _, ev, _, hE⟩ := h.rl
  refine ⟨h.rl.kept hg.size (fun k hk hkk => hg.block k hk (fun e => ?_)), below_edge h.bel hg h.low⟩
  injection e with e
  rcases hkk with rfl | hb
  · have := h.pq; omega
  · have := (hE.lt k hb).1; have := h.pq; omega
theorem Bt.fq {w0 w w' : World} {p q B : Nat} {bo : Option Nat} {es : List Int} {m la : Int} (hrl : Rl w q B bo es m la) (hpq : p < q) (hlow : w0.heap.size ≤ p) (hbel : Below w0.heap.size w0 w) (hF : Fq q bo w w') {es' : List Int} {m' la' : Int} (hl' : Lm w p es' m' la') : Lm w' p es' m' la' ∧ Below w0.heap.size w0 w' := by
  have hB := hrl.1
  obtain ⟨_, _, _, ev, _, hE⟩ := hrl
  have hb : ∀ k, k ≤ p → k < w.heap.size → w'.heap[k]? = w.heap[k]? := fun k hk hk2 => hF.block k hk2 (by omega) (fun e => by have := (hE.lt k e).1; omega)
  refine ⟨?_, ⟨hF.os.trans hbel.os, hF.tape.trans hbel.tape, hF.output.trans hbel.output, Nat.le_trans hbel.size hF.size, fun k hk => (hb k (by omega) (by have := hbel.size; omega)).trans (hbel.block k hk)⟩⟩
  unfold Lm at hl' ⊢
  obtain ⟨h1, os, h2, h3, h4⟩ := hl'
  exact ⟨h1, os, h2, h3, (hb p (Nat.le_refl _) (Lb.lt ⟨h3, h4⟩)).trans h4⟩
theorem ord_ok (m : Int) : FloatKind.f64.format.order (tnR 4607182418800017408 0 m) (tnR 4607182418800017408 0 m) = some .eq ∧ FloatKind.f64.format.order (tnI 4607182418800017408 0 m) (tnI 4607182418800017408 0 m) = some .eq := by
  rcases four m with h | h | h | h
  · rw [(tn_0 h).1, (tn_0 h).2]; decide +kernel
  · rw [(tn_1 h).1, (tn_1 h).2]; decide +kernel
  · rw [(tn_2 h).1, (tn_2 h).2]; decide +kernel
  · rw [(tn_3 h).1, (tn_3 h).2]; decide +kernel
/-- two worlds that differ in draws alone -/
def Sa (u v : World) : Prop := u.heap = v.heap ∧ u.os = v.os ∧ u.tape = v.tape ∧ u.output = v.output
theorem Sa.refl (u : World) : Sa u u := ⟨rfl, rfl, rfl, rfl⟩
theorem Sa.ln {u v : World} {p : Nat} {es : List Int} {m la : Int} (h : Sa u v) (k : Lm v p es m la) : Lm u p es m la := by
  unfold Lm at k ⊢
  obtain ⟨h1, os, h2, h3, h4⟩ := k
  exact ⟨h1, os, h2, h3, by rw [h.1]; exact h4⟩
theorem Sa.rl {u v : World} {q B : Nat} {bo : Option Nat} {es : List Int} {m la : Int} (h : Sa u v) (k : Rl v q B bo es m la) : Rl u q B bo es m la := k.kept (by rw [h.1]; exact Nat.le_refl _) (fun j _ _ => by rw [h.1])
theorem Sa.below {u v w : World} {B : Nat} (h : Sa u v) (k : Below B w v) : Below B w u := ⟨h.2.1.trans k.os, h.2.2.1.trans k.tape, h.2.2.2.trans k.output, by rw [h.1]; exact k.size, fun j hj => by rw [h.1]; exact k.block j hj⟩
theorem Sa.bt {w0 u v : World} {p q B : Nat} {bo : Option Nat} {es : List Int} {m la : Int} (h : Sa u v) (k : Bt w0 p q B bo es m la v) : Bt w0 p q B bo es m la u := ⟨h.ln k.ln, h.rl k.rl, k.m0, k.pq, k.low, h.below k.bel⟩
theorem Bt.over {w0 w w' : World} {p q B : Nat} {bo : Option Nat} {es : List Int} {m la : Int} (h : Bt w0 p q B bo es m la w) (hb : Below w.heap.size w w') : Bt w0 p q B bo es m la w' :=
  ⟨h.ln.below hb h.ln.lt, h.rl.kept hb.size (fun k hk _ => hb.block k hk), h.m0, h.pq, h.low, h.bel.trans (hb.mono h.bel.size)⟩
/-- behind both edges -/
theorem Bt.edges {w0 u0 w5 u2 w6 : World} {p q B : Nat} {bo bo' : Option Nat} {es es' : List Int} {m la m' la' : Int} (h : Bt w0 p q B bo es m la u0) (hL5 : Lm w5 p es' m' la') (hg5 : u0.grownBy w5 (some p)) (hs : Sa u2 w5) (hR6 : Rl w6 q B bo' es' m' la') (hF6 : Fq q bo u2 w6) (hm : 0 ≤ m') : Bt w0 p q B bo' es' m' la' w6 := by
  obtain ⟨hR5, hB5⟩ := h.grownP hg5
  obtain ⟨k1, k2⟩ := Bt.fq (hs.rl hR5) h.pq h.low (hs.below hB5) hF6 (hs.ln hL5)
  exact ⟨k1, hR6, hm, h.pq, h.low, k2⟩
end Go.Proofs.Ytenlkadmniobdaa
