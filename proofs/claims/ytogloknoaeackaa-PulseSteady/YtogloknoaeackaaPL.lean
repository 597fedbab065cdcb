/- A steady clock: each edge is taken; PulseSteady, walked. -/
import Derived.Test.YtogloknoaeackaaPK
namespace Go.Proofs.Ytogloknoaeackaa
open Go.RowKit
theorem ofs_steady (a o : Int) (h : a % 4294967296 = 0) (h0 : -2147483648 < o) (h1 : o < 2147483648) : ofs (pl a o) = -o := by
  unfold ofs pl
  split <;> omega
theorem pl_steady (a o : Int) (h0 : 0 ≤ a) (h1 : a < 18446744073709551616) : pl (pl a o) (-o) = a := by unfold pl; omega
theorem mid_rep (n : Nat) (c : Int) (h0 : -4294967296 ≤ c) (h1 : c ≤ 4294967296) (hn : n ≤ 64) : Pu.mid (List.replicate n c) = List.replicate (n - n / 4 - n / 4) c := by
  have e : Pu.cls (List.replicate n c) = List.replicate n c := by
    unfold Pu.cls
    rw [List.take_of_length_le (by simp; exact hn), List.map_replicate, Fx.cl_in h0 h1]
  unfold Pu.mid
  rw [e, Pu.srt_eq (List.Perm.refl _) (by rw [List.pairwise_replicate]; right; omega)]
  unfold Pu.mdl
  rw [List.length_replicate, List.drop_replicate, List.take_replicate]
  congr 1
  omega
theorem mdM_rep (n : Nat) (c : Int) (h0 : -4294967296 ≤ c) (h1 : c ≤ 4294967296) (hn : n ≤ 64) (hp : 0 < n) : Pu.mdM (List.replicate n c) = c := by
  unfold Pu.mdM
  rw [mid_rep n c h0 h1 hn]
  have hm : 0 < n - n / 4 - n / 4 := by omega
  generalize n - n / 4 - n / 4 = m at hm
  have := Pu.mean_bd (List.replicate m c) _ c c rfl (by simpa using hm) (fun x hx => by rw [List.eq_of_mem_replicate hx]; omega)
  omega
theorem mdW_rep (n : Nat) (c : Int) (h0 : -4294967296 ≤ c) (h1 : c ≤ 4294967296) (hn : n ≤ 64) (hp : 0 < n) : Pu.mdW (List.replicate n c) = 0 := by
  unfold Pu.mdW
  rw [mid_rep n c h0 h1 hn]
  have hm : 0 < n - n / 4 - n / 4 := by omega
  generalize n - n / 4 - n / 4 = m at hm
  rw [List.length_replicate, List.getD_eq_getElem?_getD, List.getD_eq_getElem?_getD, List.getElem?_replicate_of_lt (by omega), List.getElem?_replicate_of_lt (by omega)]
  simp
theorem kp_rep (n : Nat) (c : Int) (hn : n ≤ 16) : kp (List.replicate n c) c = List.replicate (min (n + 1) 16) c := by
  unfold kp
  rw [← List.replicate_succ', List.length_replicate, List.drop_replicate]
  congr 1
  omega
theorem tk_steady (n : Nat) (tk : Bool) (la a o : Int) (hn : n ≤ 16) (ha : a % 4294967296 = 0) (a0 : 0 ≤ a) (a1 : a < 18446744073709551616) (h0 : -2147483648 < o) (h1 : o < 2147483648) (hl : tk = true → la ≠ a) : tkB (List.replicate n (-o)) tk la (pl a o) = true := by
  have e1 := ofs_steady a o ha h0 h1
  have e2 := pl_steady a o a0 a1
  have hf : farB (List.replicate n (-o)) (-o) = false := by
    unfold farB
    rw [decide_eq_false_iff_not]
    rintro ⟨h3, hx⟩
    rw [List.length_replicate] at h3
    rw [mdM_rep n (-o) (by omega) (by omega) (by omega) (by omega)] at hx
    omega
  unfold tkB
  rw [e1, e2, hf]
  cases tk
  · rfl
  · rw [decide_eq_false (fun h => hl rfl h.symm)]; rfl
theorem edge_steady (p n : Nat) (tk : Bool) (la a o : Int) (re im : Nat) (w : World) (h : Ln w p (List.replicate n (-o)) tk la re im) (hn : n ≤ 16) (ha : a % 4294967296 = 0) (a0 : 0 ≤ a) (a1 : a < 18446744073709551616) (h0 : -2147483648 < o) (h1 : o < 2147483648) (hl : tk = true → la ≠ a) :
    Calls Try.prog 19 #[.pointer (some ⟨p, 0, none⟩), .int .u64 (pl a o)] w fun e w' => e = .returned (.bool true) ∧ (∃ re' im', Ln w' p (List.replicate (min (n + 1) 16) (-o)) true a re' im') ∧ w.grownBy w' (some p) := by
  have e := tk_steady n tk la a o hn ha a0 a1 h0 h1 hl
  have e1 := ofs_steady a o ha h0 h1
  have e2 := pl_steady a o a0 a1
  have q := edge_any p (List.replicate n (-o)) tk la (pl a o) re im w h
  unfold egE egL at q
  rw [e, if_pos rfl, if_pos rfl, if_pos rfl, if_pos rfl, e1, e2, kp_rep n (-o) hn, Bool.or_true] at q
  refine q.mono ?_
  rintro e w' ⟨rfl, hL, hg⟩
  exact ⟨rfl, ⟨_, _, hL⟩, hg⟩
theorem sample_steady (p n : Nat) (tk : Bool) (la a o f : Int) (re im : Nat) (w : World) (h : Ln w p (List.replicate n (-o)) tk la re im) (hn : n ≤ 16) (h3 : 3 ≤ n) (h0 : -2147483648 < o) (h1 : o < 2147483648) (f0 : -1152921504606846976 ≤ f) (f1 : f ≤ 1152921504606846976) :
    Calls Try.prog 21 #[.pointer (some ⟨p, 0, none⟩), .int .u64 a, .int .i64 f] w fun e w' => e = .returned (.tuple #[.agg #[.int .i64 (f - o), .int .i64 0, .int .i64 4096, .int .u64 a], .bool true]) ∧ Ln w' p [] tk la re im ∧ w.grownBy w' (some p) := by
  have q := sample_many p _ tk la re im a f w h (by simpa using h3) (by omega) (by omega)
  rw [mdM_rep n (-o) (by omega) (by omega) (by omega) (by omega), mdW_rep n (-o) (by omega) (by omega) (by omega) (by omega), Fx.cl_in (by omega) (by omega), show -o + f = f - o by omega] at q
  exact q
end Go.Proofs.Ytogloknoaeackaa
