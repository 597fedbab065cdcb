/- Auth: a key file's lines, as an iterator hands them on. -/
import Derived.Test.YtocimfhagkcnlaaDoorAuI
import Derived.RangeFuncNested
import Derived.RangeFuncBound
import Derived.RangeFuncCalls
import Derived.RangeFuncLeaves
import Derived.RangeFuncBox
import Derived.Shelf.Abstract
import Derived.Shelf.RegionOpen
import Derived.OwnWalkIn
import Derived.TacticsInMore
import Derived.LoopNIn
import Derived.LoopIn
import Derived.Maps.AppendAt
namespace Go.Proofs.YtocimfhagkcnlaaDoor
open Go Go.RowKit Go.Sort Go.Shelf
set_option linter.unusedVariables false
attribute [local go_sem] Oper.semAt_some
/-- what a line says: what lies ahead of its remark -/
def saidL (l : List UInt8) : ByteArray := ⟨(Lib.cut l [35]).1.toArray⟩
def lnS : Nat → List UInt8 → List ByteArray
  | 0, _ => []
  | k + 1, s => saidL (Lib.cut s [10]).1 :: (if (Lib.cut s [10]).2.2 = true then lnS k (Lib.cut s [10]).2.1 else [])
theorem cut_less (s : List UInt8) (h : (Lib.cut s [10]).2.2 = true) : (Lib.cut s [10]).2.1.length < s.length := by
  unfold Lib.cut at h ⊢
  split at h
  · rename_i h0
    rw [if_pos h0]
    show (s.drop _).length < _
    cases s with
    | nil => exact absurd h0 (by decide)
    | cons a t => rw [List.length_drop]; simp; omega
  · cases h
theorem cut_rest (s : List UInt8) : (Lib.cut s [10]).2.1.length ≤ s.length := by
  unfold Lib.cut
  split
  · show (s.drop _).length ≤ _
    rw [List.length_drop]; omega
  · simp
theorem cut_le (s : List UInt8) : (Lib.cut s [10]).1.length ≤ s.length := by
  unfold Lib.cut
  split
  · show (s.take _).length ≤ _
    rw [List.length_take]; omega
  · exact Nat.le_refl _
def msr (r m : Value) : Nat := match r, m with
  | .string b, .bool true => b.size + 1
  | _, _ => 0
set_option maxRecDepth 100000 in
set_option maxHeartbeats 2000000 in
theorem lines_stops (Pd : ByteArray → Prop) (n : Nat) (hn : 1 ≤ n) (s : ByteArray) (Bn n₀ : Nat) (mx : Int) (w : World) (hs : s.size ≤ 1000000) (hPd : ∀ x ∈ lnS (s.size + 1) s.data.toList, Pd x) (hn₀ : n₀ ≤ w.heap.size) (h1l : 1 < n₀) (hBn : w.cell? ⟨Bn, 0, none⟩ = some (.string s)) (hm : w.cell? ⟨1, 0, none⟩ = some (.int .i64 mx)) :
    SeqStopsK Fence.wide n Tryd.prog 68 #[.pointer (some ⟨Bn, 0, none⟩)] (fun x : { x : ByteArray // Pd x } => #[.string x.1]) (Below n₀) (fun ys => ys.map (·.1) = lnS (s.size + 1) s.data.toList) (fun pre => pre.map (·.1) <+: lnS (s.size + 1) s.data.toList) (lnS (s.size + 1) s.data.toList).length w := fun l J Jx W hW hJ hJx hY h0 => by
  have hBl : Bn < w.heap.size := World.block_lt_of_cell? w _ hBn
  have hb : W.cell? ⟨Bn, 0, none⟩ = some (.string s) := (hW.cell (p := ⟨Bn, 0, none⟩) hBl).trans hBn
  have hm1 : W.cell? ⟨1, 0, none⟩ = some (.int .i64 mx) := (hW.cell (p := ⟨1, 0, none⟩) (Nat.lt_of_lt_of_le h1l hn₀)).trans hm
  obtain ⟨xs, hxs⟩ : ∃ xs, lnS (s.size + 1) s.data.toList = xs := ⟨_, rfl⟩
  rw [hxs] at hY hPd ⊢
  refine callsIn_of_wp Tryd.func68 rfl trivial ?_ rfl
  simp only [Tryd.ntmps68, List.size_toArray, List.length_cons, List.length_nil, Nat.reduceAdd, Nat.reduceSub, Array.replicate_succ, Array.replicate_zero, List.push_toArray, List.append_toArray, List.nil_append, List.cons_append]
  gi_wp2
  gi_loopw [3, 4] (fun r m wr => ∃ (pre : List { x : ByteArray // Pd x }) (t : ByteArray) (k : Nat) (more : Bool), r = .string t ∧ m = .bool more ∧ t.size ≤ 1000000 ∧ (more = true → t.size < k) ∧ xs = pre.map (·.1) ++ (if more = true then lnS k t.data.toList else []) ∧ J pre wr ∧ wr.cell? ⟨1, 0, none⟩ = some (.int .i64 mx)) (fun r m _ => msr r m)
  case atStart =>
    exact ⟨[], s, s.size + 1, true, rfl, rfl, hs, fun _ => by omega, by rw [if_pos rfl, hxs]; rfl, h0, hm1⟩
  case round =>
    obtain ⟨pre, t, k, more, rfl, rfl, ht, hk, hx, hJs, hmr⟩ := hrel
    cases more with
    | false =>
      gi_wp2
      go_end0
      exact ⟨⟨_, rfl⟩, .inl ⟨pre, by simpa using hx.symm, hJs⟩⟩
    | true =>
      have hk' := hk rfl
      rw [if_pos rfl] at hx
      obtain ⟨k, rfl⟩ : ∃ k', k = k' + 1 := ⟨k - 1, by omega⟩
      rw [lnS] at hx
      have c1 := cut_less t.data.toList
      have c2 := cut_le t.data.toList
      have c3 := cut_rest t.data.toList
      obtain ⟨L, hL⟩ : ∃ L, (⟨(Lib.cut t.data.toList [10]).1.toArray⟩ : ByteArray) = L := ⟨_, rfl⟩
      obtain ⟨T, hT⟩ : ∃ L, (⟨(Lib.cut t.data.toList [10]).2.1.toArray⟩ : ByteArray) = L := ⟨_, rfl⟩
      obtain ⟨b, hb'⟩ : ∃ L, (Lib.cut t.data.toList [10]).2.2 = L := ⟨_, rfl⟩
      have eL : (Lib.cut t.data.toList [10]).1 = L.data.toList := by rw [← hL]
      have eT : (Lib.cut t.data.toList [10]).2.1 = T.data.toList := by rw [← hT]
      have sz : t.data.toList.length = t.size := by rw [Array.length_toList]; rfl
      have szL : L.data.toList.length = L.size := by rw [Array.length_toList]; rfl
      have szT : T.data.toList.length = T.size := by rw [Array.length_toList]; rfl
      rw [eL, eT, hb'] at hx
      rw [eT, hb', sz, szT] at c1
      rw [eL, sz, szL] at c2
      rw [eT, sz, szT] at c3
      obtain ⟨X, hX⟩ : ∃ X, saidL L.data.toList = X := ⟨_, rfl⟩
      obtain ⟨Y, hY'⟩ : ∃ X, (⟨(Lib.cut L.data.toList [35]).2.1.toArray⟩ : ByteArray) = X := ⟨_, rfl⟩
      obtain ⟨z, hz⟩ : ∃ X, (Lib.cut L.data.toList [35]).2.2 = X := ⟨_, rfl⟩
      have K1 : Hid (∀ u : World, u.cell? ⟨1, 0, none⟩ = some (.int .i64 mx) → Calls Tryd.prog 69 #[.string t, .string ⟨#[10]⟩] u fun e w' => e = .returned (.tuple #[.string L, .string T, .bool b]) ∧ ∃ n, w' = u.drewN n) := fun u hu => by
        have h := Tryd.strings_Cut t ⟨#[10]⟩ mx u (by omega) hu
        have e : (⟨#[10]⟩ : ByteArray).data.toList = [10] := rfl
        rw [e, hL, hT, hb'] at h
        exact h
      have K2 : Hid (∀ u : World, u.cell? ⟨1, 0, none⟩ = some (.int .i64 mx) → Calls Tryd.prog 69 #[.string L, .string ⟨#[35]⟩] u fun e w' => e = .returned (.tuple #[.string X, .string Y, .bool z]) ∧ ∃ n, w' = u.drewN n) := fun u hu => by
        have h := Tryd.strings_Cut L ⟨#[35]⟩ mx u (by omega) hu
        have e : (⟨#[35]⟩ : ByteArray).data.toList = [35] := rfl
        have e2 : (⟨(Lib.cut L.data.toList [35]).1.toArray⟩ : ByteArray) = X := hX
        rw [e, e2, hY', hz] at h
        exact h
      rw [hX] at hx
      have HX : Hid (xs = pre.map (·.1) ++ X :: (if b = true then lnS k T.data.toList else [])) := hx
      have hPX : Pd X := hPd X (by rw [hx]; simp)
      have HC : Hid ((b = true → T.size < t.size) ∧ t.size < k + 1 ∧ T.size ≤ 1000000) := ⟨c1, hk', by omega⟩
      have HJ : Hid (∀ u, (∃ n m : Nat, u = (wr.drewN n).drewN m) → J pre u) := fun u ⟨n, m, hu⟩ => hJ pre wr u none hJs (by rw [hu]; exact grownBy_trans (grownBy_drewN _ _ _) (grownBy_drewN _ _ _)) (fun r e => by cases e)
      clear hk hk' hx c1 c2 c3 hL hT hb' eL eT sz szL szT hX hY' hz hJs ht
      gi_wp2_with (first
        | (refine ⟨trivial, ?_⟩; gi_at_call 69; (with_reducible refine (callsIn_wide.2 (K1.out _ hmr)).mono ?_); rintro e w1 ⟨rfl, n1, hw⟩; have H1 : Hid (w1 = wr.drewN n1) := hw; clear hw; have hm2 : w1.cell? ⟨1, 0, none⟩ = some (.int .i64 mx) := (by rw [H1.out]; exact hmr))
        | (refine ⟨trivial, ?_⟩; gi_at_call 69; (with_reducible refine (callsIn_wide.2 (K2.out _ hm2)).mono ?_); rintro e w2 ⟨rfl, n2, hw⟩; have H2 : Hid (w2 = w1.drewN n2) := hw; clear hw; obtain ⟨fn, tmps, assign, body, hy, hR⟩ := hY pre ⟨X, hPX⟩ w2 (HJ.out w2 ⟨n1, n2, by rw [H2.out, H1.out]⟩) (by rw [HX.out]; simp); (try dsimp only at hy)))
      refine hR.mono ?_
      rintro e W3 (⟨rfl, hJ3, hk3⟩ | ⟨rfl, hJx3⟩)
      · have hm3 : W3.cell? ⟨1, 0, none⟩ = some (.int .i64 mx) := (hk3.cell (p := ⟨1, 0, none⟩) h1l).trans (by rw [H2.out]; exact hm2)
        gi_wp2
        go_roundw
        case rel => exact ⟨pre ++ [⟨X, hPX⟩], T, k, b, rfl, rfl, HC.out.2.2, fun hb => by have := HC.out.1 hb; have := HC.out.2.1; omega, by rw [HX.out]; simp, hJ3, hm3⟩
        case measure =>
          have h1 := HC.out.1
          cases b with
          | false => simp [msr]
          | true => have := h1 rfl; simp [msr]; omega
      · gi_wp2
        refine bodyPost_ret (results_none rfl _ _ _) rfl ?_
        exact ⟨⟨_, rfl⟩, .inr ⟨pre ++ [⟨X, hPX⟩], by rw [HX.out]; exact ⟨if b = true then lnS k T.data.toList else [], by simp⟩, hJx3⟩⟩
end Go.Proofs.YtocimfhagkcnlaaDoor
