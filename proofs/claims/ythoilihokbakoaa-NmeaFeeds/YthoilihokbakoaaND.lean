/- What strings.TrimSuffix returns of a sentence and a carriage return. -/
import Derived.Test.YthoilihokbakoaaNC
namespace Go.Proofs.Ythoilihokbakoaa
open Go Go.RowKit
theorem extract_last {cur : List UInt8} (h : 0 < cur.length) : (tx cur).extract (cur.length - 1) cur.length = tx [cur[cur.length - 1]'(by omega)] := by
  rw [extract_tx, tx_data, show cur.length - (cur.length - 1) = 1 by omega]
  congr 1
  rw [List.drop_eq_getElem_cons (by omega), List.take_succ_cons, List.take_zero]
theorem extract_cr {cur : List UInt8} (h : 0 < cur.length) : ∃ c : UInt8, (tx cur).extract ((tx cur).size - 1) (tx cur).size = tx [c] ∧ (cur.getLast? = some 13 ↔ c = 13) :=
  ⟨_, extract_last h, by rw [last_at h, Option.some.injEq]⟩
theorem tx_list (l : List UInt8) : (tx l).toList = l := by rw [Lib.toList_data, tx_data]
theorem ret_str {a b : ByteArray} (h : a = b) : Ending.returned (.string a) = .returned (.string b) := by rw [h]
set_option maxHeartbeats 1000000 in
theorem trim_any (cur : List UInt8) (w : World) (hl : cur.length ≤ 82) :
    Calls Try.prog 15 #[.string (tx cur), .string ⟨#[13]⟩] w fun e w' => e = .returned (.string (tx (chop cur))) ∧ w' = w := by
  obtain ⟨s, hs⟩ : ∃ s, s = tx cur := ⟨_, rfl⟩
  have hz : s.size = cur.length := by rw [hs]; rfl
  rw [← hs]
  have HS : Hid (s = tx cur ∧ s.size = cur.length) := ⟨hs, hz⟩
  obtain ⟨X, hX⟩ : ∃ X, X = tx (chop cur) := ⟨_, rfl⟩
  rw [← hX]
  have HX : Hid (X = tx (chop cur)) := hX
  have hzi : (s.size : Int) ≤ 82 := by omega
  clear hX
  by_cases h0 : cur.length = 0
  · have hi : (s.size : Int) < 1 := by omega
    clear hs hz
    go_enter Try.func15, Try.ntmps15
    go_wp2
    go_ret
    exact ⟨ret_str (by rw [HX.out, HS.out.1, List.length_eq_zero_iff.1 h0]; rfl), rfl⟩
  · have hi : 1 ≤ (s.size : Int) := by omega
    obtain ⟨c, hE, hC⟩ : ∃ c : UInt8, s.extract (s.size - 1) s.size = tx [c] ∧ (cur.getLast? = some 13 ↔ c = 13) := by rw [hs]; exact extract_cr (by omega)
    have hF : cur.getLast? = some 13 → s.extract 0 (s.size - 1) = X := fun h => by
      rw [HX.out, hz, hs, extract_tx, tx_data]; unfold chop; rw [if_pos h, List.dropLast_eq_take]; simp
    clear hs hz
    by_cases h13 : cur.getLast? = some 13
    · have hc : ((s.extract (s.size - 1) s.size).toList == [13]) = true := by rw [hE, tx_list, hC.1 h13]; rfl
      have HF : Hid (s.extract 0 (s.size - 1) = X) := hF h13
      clear hE hF hC
      go_enter Try.func15, Try.ntmps15
      go_wp2
      go_ret
      exact ⟨ret_str HF.out, rfl⟩
    · have hc : ((s.extract (s.size - 1) s.size).toList == [13]) = false := by
        rw [hE, tx_list, beq_eq_false_iff_ne]
        intro e
        injection e with e
        exact h13 (hC.2 e)
      clear hE hF hC
      go_enter Try.func15, Try.ntmps15
      go_wp2
      go_ret
      exact ⟨ret_str (by rw [HX.out, HS.out.1]; unfold chop; rw [if_neg h13]), rfl⟩
end Go.Proofs.Ythoilihokbakoaa
