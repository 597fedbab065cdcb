/- Spans in memory: a slice that is read, a row that the call has made; pieces of it; what append makes. -/
import Derived.Test.YtenlkadmniobdaaPC
import Derived.Deep.AppendLies
import Derived.Laws.AppendOwnNone
namespace Go.Proofs.Ytenlkadmniobdaa
open Go.RowKit
theorem add_blk (ad : Addr) (k : Nat) : (ad.add k).block = ad.block := by unfold Addr.add; split <;> rfl
theorem add_add (ad : Addr) (i j : Nat) : (ad.add i).add j = ad.add (i + j) := by
  unfold Addr.add
  by_cases hi : i = 0
  · subst hi; simp
  · by_cases hj : j = 0
    · subst hj; simp
    · rw [if_neg hi, if_neg hj, if_neg (by omega)]; simp; omega
/-- numbers of 64 bits -/
def ok6 (xs : List Int) : Prop := ∀ x ∈ xs, -9223372036854775808 ≤ x ∧ x ≤ 9223372036854775807
theorem ok6.take {xs : List Int} (h : ok6 xs) (n : Nat) : ok6 (xs.take n) := fun x hx => h x (List.mem_of_mem_take hx)
theorem ok6.drop {xs : List Int} (h : ok6 xs) (n : Nat) : ok6 (xs.drop n) := fun x hx => h x (List.mem_of_mem_drop hx)
theorem ok6.app {xs ys : List Int} (h : ok6 xs) (k : ok6 ys) : ok6 (xs ++ ys) := fun x hx => by
  rcases List.mem_append.1 hx with hx | hx
  · exact h x hx
  · exact k x hx
/-- a slice below block N that reads as these numbers -/
def Sl (N : Nat) (w : World) (v : Value) (xs : List Int) : Prop := ∃ ao cap, v = .slice ao xs.length cap ∧ xs.length ≤ cap ∧ (0 < xs.length → ∃ ad, ao = some ad ∧ ad.block < N ∧ Ra w ad xs) ∧ ok6 xs ∧ (ao = none → cap = 0)
theorem Sl.below {N B : Nat} {w w' : World} {v : Value} {xs : List Int} (h : Sl N w v xs) (hb : Below B w w') (hN : N ≤ B) : Sl N w' v xs := by
  obtain ⟨ao, cap, h1, h2, h3, h4, h5⟩ := h
  refine ⟨ao, cap, h1, h2, fun hp => ?_, h4, h5⟩
  obtain ⟨ad, k1, k2, k3⟩ := h3 hp
  exact ⟨ad, k1, k2, fun k hk => (hb.cell (p := ad.add k) (by rw [add_blk]; omega)).trans (k3 k hk)⟩
theorem Sl.mono {N M : Nat} {w : World} {v : Value} {xs : List Int} (h : Sl N w v xs) (hN : N ≤ M) : Sl M w v xs := by
  obtain ⟨ao, cap, h1, h2, h3, h4, h5⟩ := h
  refine ⟨ao, cap, h1, h2, fun hp => ?_, h4, h5⟩
  obtain ⟨ad, k1, k2, k3⟩ := h3 hp
  exact ⟨ad, k1, by omega, k3⟩
theorem Sl.mid {N : Nat} {w : World} {ao : Option Addr} {cap : Nat} {xs : List Int} (h : Sl N w (.slice ao xs.length cap) xs) (l r : Nat) (hlr : l ≤ r) (hr : r ≤ xs.length) :
    Sl N w (.slice (if cap = l then ao else ao.map (fun a => a.add (l * 1))) (r - l) (cap - l)) ((xs.drop l).take (r - l)) := by
  obtain ⟨ao', cap', he, h1, h2, h3, h4⟩ := h
  injection he with he1 he2 he3
  subst he1; subst he3
  have hlen : ((xs.drop l).take (r - l)).length = r - l := by rw [List.length_take, List.length_drop]; omega
  refine ⟨_, _, by rw [hlen], by omega, fun hp => ?_, (h3.drop l).take (r - l), fun e => ?_⟩
  · obtain ⟨ad, rfl, k2, k3⟩ := h2 (by omega)
    rw [if_neg (by omega)]
    refine ⟨_, rfl, by rw [add_blk]; exact k2, fun k hk => ?_⟩
    rw [hlen] at hk
    rw [add_add, Nat.mul_one, k3 (l + k) (by omega), List.getD_eq_getElem?_getD, List.getD_eq_getElem?_getD, List.getElem?_take_of_lt (by omega), List.getElem?_drop]
  · by_cases hc : cap = l
    · omega
    · rw [if_neg hc] at e
      cases ao with
      | none => have := h4 rfl; omega
      | some a => cases e
/-- v[l:r] -/
theorem sl_mid {N : Nat} {w : World} {v : Value} {xs : List Int} (h : Sl N w v xs) (l r : Nat) (L R : Int) (hL : (l : Int) = L) (hR : (r : Int) = R) (hlr : l ≤ r) (hr : r ≤ xs.length) :
    ∃ v', (∀ u, (Instr.slice 28 v (some (.int .i64 L)) (some (.int .i64 R)) none).run Try.prog u = .ok v' u) ∧ Sl N w v' ((xs.drop l).take (r - l)) := by
  have hh := h
  obtain ⟨ao, cap, rfl, h1, h2, h3, h4⟩ := h
  subst hL; subst hR
  refine ⟨_, fun u => ?_, hh.mid l r hlr hr⟩
  have q1 : r ≤ cap := by omega
  simp [Instr.slice, Instr.sliceBounds, Instr.sliceBound, asIntOf, run_underlying Try.underlying28, q1, hlr]
/-- v[:r] -/
theorem sl_take {N : Nat} {w : World} {v : Value} {xs : List Int} (h : Sl N w v xs) (r : Nat) (R : Int) (hR : (r : Int) = R) (hr : r ≤ xs.length) :
    ∃ v', (∀ u, (Instr.slice 28 v none (some (.int .i64 R)) none).run Try.prog u = .ok v' u) ∧ Sl N w v' (xs.take r) := by
  have hh := h
  obtain ⟨ao, cap, rfl, h1, h2, h3, h4⟩ := h
  subst hR
  have hm := hh.mid 0 r (Nat.zero_le _) hr
  rw [List.drop_zero, Nat.sub_zero] at hm
  refine ⟨_, fun u => ?_, hm⟩
  have q1 : r ≤ cap := by omega
  simp [Instr.slice, Instr.sliceBounds, Instr.sliceBound, asIntOf, run_underlying Try.underlying28, q1]
/-- v[l:] -/
theorem sl_drop {N : Nat} {w : World} {v : Value} {xs : List Int} (h : Sl N w v xs) (l : Nat) (L : Int) (hL : (l : Int) = L) (hl : l ≤ xs.length) :
    ∃ v', (∀ u, (Instr.slice 28 v (some (.int .i64 L)) none none).run Try.prog u = .ok v' u) ∧ Sl N w v' (xs.drop l) := by
  have hh := h
  obtain ⟨ao, cap, rfl, h1, h2, h3, h4⟩ := h
  subst hL
  have hm := hh.mid l xs.length hl (Nat.le_refl _)
  rw [List.take_of_length_le (by rw [List.length_drop]; omega)] at hm
  refine ⟨_, fun u => ?_, hm⟩
  simp [Instr.slice, Instr.sliceBounds, Instr.sliceBound, asIntOf, run_underlying Try.underlying28, hl]
/-- a row that the call has made, from block B on -/
def Oi (w : World) (B : Nat) (v : Value) (xs : List Int) : Prop := w.ownsRow B 25 1 v xs.length (vi xs) ∧ ok6 xs
theorem Oi.nil (w : World) (B : Nat) : Oi w B (.slice none 0 0) [] := ⟨⟨by simp [vi], .inl ⟨rfl, rfl⟩⟩, fun x hx => by cases hx⟩
theorem Oi.sl {w : World} {B : Nat} {v : Value} {xs : List Int} (h : Oi w B v xs) : Sl w.heap.size w v xs := by
  obtain ⟨h, hok⟩ := h
  rcases h.2 with ⟨h1, h2⟩ | ⟨g, cap, cur, h1, h2, h3, h4, h5, h6, h7⟩
  · exact ⟨none, 0, by rw [h1, h2], by omega, fun hp => by omega, hok, fun _ => rfl⟩
  · have hg : g < w.heap.size := (Array.getElem?_eq_some_iff.1 h3).1
    refine ⟨some ⟨g, 0, none⟩, cap, h1, h4, fun _ => ⟨_, rfl, hg, fun k hk => ?_⟩, hok, by simp⟩
    rw [add_own, Nat.zero_add, cell_of_row w g k cur _ (0, 0) h3]
    have e := vi_get xs k hk
    rw [← h7, List.getElem?_take_of_lt (by omega)] at e
    simpa using e
theorem Oi.below {w w' : World} {B C : Nat} {v : Value} {xs : List Int} (h : Oi w B v xs) (hb : Below C w w') (hC : w.heap.size ≤ C) : Oi w' B v xs :=
  ⟨World.ownsRow.kept (row := none) h.1 ⟨hb.os, hb.tape, hb.output, hb.size, fun k hk _ => hb.block k (by omega)⟩ (by cases v.ownBlock <;> simp), h.2⟩
theorem Oi.mono {w : World} {B B' : Nat} {v : Value} {xs : List Int} (h : Oi w B v xs) (hb : B' ≤ B) : Oi w B' v xs := by
  obtain ⟨⟨h1, h2⟩, h3⟩ := h
  refine ⟨⟨h1, ?_⟩, h3⟩
  rcases h2 with h2 | ⟨g, cap, cur, a1, a2, r⟩
  · exact .inl h2
  · exact .inr ⟨g, cap, cur, a1, by omega, r⟩
theorem Oi.block {w : World} {B : Nat} {v : Value} {xs : List Int} (h : Oi w B v xs) : ∀ k, v.ownBlock = some k → B ≤ k := by
  rcases h.1.2 with ⟨h1, h2⟩ | ⟨g, cap, cur, h1, h2, _⟩
  · rw [h1]; simp [Value.ownBlock]
  · rw [h1]; intro k hk; simp [Value.ownBlock] at hk; omega
theorem info25p : ∃ i, Try.prog.info? 25 = some i ∧ i.zero = some (.int .i64 0) ∧ i.size = 1 ∧ i.bytes = 8 := by
  have h : (Try.prog.info? 25).map (fun i => (i.zero, i.size, i.bytes)) = some (some (.int .i64 0), 1, 8) := by kernel_rfl
  cases hi : Try.prog.info? 25 with
  | none => rw [hi] at h; cases h
  | some i =>
    rw [hi] at h
    simp at h
    exact ⟨i, rfl, h.1, h.2.1, h.2.2⟩
/-- append -/
theorem run_appI (w : World) (B N : Nat) (v xv : Value) (bs cs : List Int) (hown : Oi w B v bs) (hx : Sl N w xv cs) (hl : (bs.length + cs.length) * 8 ≤ 140737488355328) (hbase : B ≤ w.heap.size) :
    ∃ v' w', (Builtin.append_ #[28, 28] 28 #[v, xv]).run Try.prog w = .ok v' w' ∧ Oi w' B v' (bs ++ cs) ∧ w.grownBy w' v.ownBlock ∧ Below B w w' := by
  obtain ⟨i0, hi, hz0, hz1, hz2⟩ := info25p
  obtain ⟨ao, cap, rfl, h2, h3, h4, h5⟩ := hx
  have hvb := hown.block
  rcases ao with _ | ad
  · have hc0 := h5 rfl
    have hl0 : cs = [] := List.length_eq_zero_iff.1 (by omega)
    subst hl0 hc0
    have hrun := run_append_owned_none (P := Try.prog) (w := w) B 28 28 25 i0 1 Try.underlying28 hi v bs.length (vi bs) hown.1
    exact ⟨v, w, hrun, by simpa using hown, ⟨rfl, rfl, rfl, Nat.le_refl _, fun _ _ _ => rfl⟩, Below.refl _ _⟩
  · have hnews : ∀ j u, (vi cs)[j]? = some u → w.cell? (ad.add j) = some u := fun j u hu => by
      by_cases hj : j < cs.length
      · obtain ⟨ad', k1, _, k3⟩ := h3 (by omega)
        have k1 : ad = ad' := Option.some.inj k1
        rw [k1, k3 j hj, ← vi_get _ _ hj, hu]
      · rw [List.getElem?_eq_none (by rw [vi_len]; omega)] at hu; cases hu
    obtain ⟨v', w', hr, k2, k3, _, k5⟩ := run_append_own_at (P := Try.prog) w B 28 28 25 i0 (.int .i64 0) 1 8 Try.underlying28 hi hz0 hz1 hz2 rfl (by decide) v bs.length (vi bs) hown.1 ad cs.length cap (vi cs) (by rw [vi_len]; omega) hnews
      (by intro u hu; unfold vi at hu; obtain ⟨b, _, rfl⟩ := List.mem_map.1 hu; rfl) (by unfold maxLen; omega) hl hbase
    refine ⟨v', w', hr, ⟨?_, hown.2.app h4⟩, k3, (Below.refl B w).grown k3 hbase hvb⟩
    unfold vi at k2 ⊢
    rw [List.map_append, List.length_append]
    exact k2
/-- append at a plain region's operation, by its run -/
theorem wpList_appR {w w' : World} {ops : Array Oper} {rest : List Oper} {o : Oper} {a : Act} {Q : Exit → Act → World → Prop} (hgd : o.guard = none) (s x : Operand)
    (ho : o.op = .call { callee := .builtin .append, args := #[s, x], argTypes := #[28, 28] }) (hty : o.type = 28) (v xv v' : Value) (hs : a.eval s = v) (hx : a.eval x = xv)
    (hr : (Builtin.append_ #[28, 28] 28 #[v, xv]).run Try.prog w = .ok v' w') (h : wpList Try.prog ops Q rest (a.put o.dst v') w') : wpList Try.prog ops Q (o :: rest) a w :=
  wpList_plain hgd fun K hK => by
    unfold Oper.wp execOp
    simp only [ho, hty, resolve, invoke, builtin, Sem.run_bind, Sem.run_pure, Result.andThen_ok, List.map_toArray, List.map_cons, List.map_nil, hs, hx, hr]
    exact hK _ _ h
end Go.Proofs.Ytenlkadmniobdaa
