/- The law NmeaTold, walked. -/
import Derived.Test.YthoilihokbakoaaNJ
import Derived.Lib.AppendStr
namespace Go.Proofs.Ythoilihokbakoaa
open Go Go.RowKit
theorem strCells_ib (s : ByteArray) : Lib.strCells s = U (ib s.data.toList) := by
  unfold Lib.strCells U ib
  rw [List.map_map]
  rfl
/-- a text is appended to bytes -/
theorem wpList_apps {w : World} {ops : Array Oper} {rest : List Oper} {o : Oper} {a : Act} {Q : Exit → Act → World → Prop} (hgd : o.guard = none) (s x : Operand) (t : TypeId)
    (ho : o.op = .call { callee := .builtin .append, args := #[s, x], argTypes := #[t, 9] }) (ht : Try.prog.underlying t = some (.slice 5))
    (B : Nat) (v : Value) (bs : List Int) (str : ByteArray) (hs : a.eval s = v) (hx : a.eval x = .string str) (hown : Own w B v bs) (hl : bs.length + str.size ≤ 10000000) (hbase : B ≤ w.heap.size)
    (h : ∀ v' w', Own w' B v' (bs ++ ib str.data.toList) → w.grownBy w' v.ownBlock → wpList Try.prog ops Q rest (a.put o.dst v') w') : wpList Try.prog ops Q (o :: rest) a w := by
  obtain ⟨i0, hi, hz0, hz1, hz2⟩ := info5_parts
  refine Lib.wpList_append_own_string w hgd s x t 9 ho B 5 i0 ht Try.underlying9 hi hz0 hz1 hz2 v bs.length (U bs) hs hown str hx (by unfold maxLen; omega) (by omega) hbase (fun v' w' a1 a2 _ => h v' w' ?_ a2)
  show World.ownsRow _ _ _ _ _ _ _
  rw [U_app, List.length_append, ib_len, ← strCells_ib]
  have : str.data.toList.length = str.size := by simp
  rw [this]
  exact a1
theorem Own.made (w : World) (B : Nat) (hB : B ≤ w.heap.size) : Own (w.alloc (.cells #[] 5)) B (.slice (some ⟨w.heap.size, 0, none⟩) 0 0) [] := World.ownsRow_made w #[] 0 hB (by simp) (by simp)
theorem Own.alloc {w : World} {B : Nat} {v : Value} {bs : List Int} (h : Own w B v bs) (o : Obj) : Own (w.alloc o) B v bs := World.ownsRow.alloc h o
/-- bytes in a new block -/
theorem Sv.new (w : World) (cs : Array Value) (bs : List Int) (hc : cs.toList = U bs) (hok : okb bs) (m g : Nat) (hm : m = bs.length) (hg : g = w.heap.size) : Sv (g + 1) (w.alloc (.cells cs 5)) (.slice (some ⟨g, 0, none⟩) m m) bs := by
  subst hm hg
  refine ⟨_, _, rfl, Nat.le_refl _, by simp, fun k hk => ⟨_, rfl, by simp, ?_⟩, hok⟩
  rw [add_own, World.cell?_alloc_new, ← Array.getElem?_toList, hc, U_get, getD_at _ _ hk]
  rfl
/-- what plain answers -/
def PlR (s : ByteArray) (e : Ending) : Prop := ∃ B : Bool, e = .returned (.bool B) ∧ (B = true → plainL s.data.toList)
theorem byte_at (s : ByteArray) (k : Nat) (h : k < s.size) : s.data.toList[k]? = some s[k] := by
  rw [List.getElem?_eq_getElem (by simpa using h)]; rfl
set_option maxHeartbeats 1000000 in
theorem plain_any (s : ByteArray) (w : World) (hs : s.size ≤ maxLen) : Calls Try.prog 13 #[.string s] w fun e w' => PlR s e ∧ w' = w := by
  have hsi : (s.size : Int) ≤ 9223372036854775807 := by unfold maxLen at hs; omega
  go_enter Try.func13, Try.ntmps13
  go_wp2
  go_loop [3] (fun i => ∃ k : Nat, i = .int .i64 (k : Int) ∧ k ≤ s.size ∧ Hid (∀ j c, j < k → s.data.toList[j]? = some c → 32 ≤ c.toNat ∧ c.toNat ≤ 126 ∧ c.toNat ≠ 36)) (fun i => s.size - (intOf i).toNat)
  case atStart => exact ⟨0, rfl, Nat.zero_le _, fun j c hj => absurd hj (by omega)⟩
  case round =>
    obtain ⟨k, rfl, hk, H⟩ := hrel
    by_cases hlt : k < s.size
    · have hlti : (k : Int) < s.size := by omega
      have HB := byte_at s k hlt
      by_cases h1 : (s[k].toNat : Int) < 32
      · go_wp2
        go_ret
        exact ⟨⟨false, rfl, fun h => by cases h⟩, rfl⟩
      · by_cases h2 : 126 < (s[k].toNat : Int)
        · go_wp2
          go_ret
          exact ⟨⟨false, rfl, fun h => by cases h⟩, rfl⟩
        · by_cases h3 : (s[k].toNat : Int) = 36
          · have hb : ((s[k].toNat : Int) == 36) = true := by rw [h3]; rfl
            clear h3
            go_wp2
            go_ret
            exact ⟨⟨false, rfl, fun h => by cases h⟩, rfl⟩
          · have hb : ((s[k].toNat : Int) == 36) = false := by rw [beq_eq_false_iff_ne]; exact h3
            have HN : Hid (∀ j c, j < k + 1 → s.data.toList[j]? = some c → 32 ≤ c.toNat ∧ c.toNat ≤ 126 ∧ c.toNat ≠ 36) := fun j c hj hc => by
              by_cases e : j = k
              · subst e
                rw [HB] at hc
                injection hc with hc
                subst hc
                omega
              · exact H.out j c (by omega) hc
            clear h3 HB
            go_wp2
            refine ⟨⟨k + 1, by go_num, by omega, HN⟩, by simp [intOf]; omega⟩
    · have hge : ¬ (k : Int) < s.size := by omega
      go_wp2
      go_ret
      refine ⟨⟨_, rfl, fun h => ?_⟩, rfl⟩
      simp at h
      refine ⟨fun c hc => ?_, ?_⟩
      · obtain ⟨j, hj, rfl⟩ := List.mem_iff_getElem.1 hc
        exact H.out j _ (by simp at hj; have : s.data.size = s.size := rfl; omega) (List.getElem?_eq_getElem hj)
      · have : s.data.toList.length = s.size := by simp
        omega
end Go.Proofs.Ythoilihokbakoaa
