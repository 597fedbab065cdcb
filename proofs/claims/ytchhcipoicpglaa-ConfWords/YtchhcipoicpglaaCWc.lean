/- What the reference's Words returns; two rows of texts that are the same. -/
import Derived.Test.YtchhcipoicpglaaCWb
import Derived.Deep.RegionHeld3
namespace Go.Proofs.Ytchhcipoicpglaa
open Go.RowKit
theorem tx_empty : (tx []).toList.isEmpty = true := by rw [Lib.toList_data, tx_data]; rfl
theorem tx_full {l : List UInt8} (h : l ≠ []) : (tx l).toList.isEmpty = false := by rw [Lib.toList_data, tx_data]; cases l <;> simp_all
theorem tx_size (l : List UInt8) : (tx l).size = l.length := rfl
theorem tx_add (l : List UInt8) (s : ByteArray) (k : Nat) (h : k < s.size) : tx l ++ s.extract k (k + 1) = tx (l ++ [s[k]]) := by
  apply ByteArray.ext
  rw [extract_tx, drop_at s k h, show k + 1 - k = 1 by omega]
  unfold tx
  simp
/-- the loop's memory -/
structure R1 (s : ByteArray) (w w' : World) (v : Value) (k : Nat) (O : List (List UInt8)) (cur : List UInt8) : Prop where
  hk : k ≤ s.size
  bl : Below w.heap.size w w'
  ow : OwT w' w.heap.size v O
  ln : O.length + (if cur = [] then 0 else 1) ≤ k
  wd : Wd s.data.toList O cur (s.data.toList.drop k)
  cl : cur.length ≤ k
set_option maxRecDepth 4000 in
set_option maxHeartbeats 1000000 in
theorem rwords_any (s : ByteArray) (w : World) (hs : s.size ≤ 65536) :
    Calls Try.prog 5 #[.string s] w fun e w' => ∃ v n, e = .returned (.tuple #[v, .int .i64 n]) ∧ Below w.heap.size w w' ∧ WE s w w' v n := by
  have hsi : (s.size : Int) ≤ 65536 := by omega
  go_enter Try.func5, Try.ntmps5
  go_wp2
  go_loopw [4, 5, 6] (fun o wd i wr => ∃ (v : Value) (k : Nat) (O : List (List UInt8)) (cur : List UInt8), v = o ∧ wd = .string (tx cur) ∧ i = .int .i64 (k : Int) ∧ Hid (R1 s w wr v k O cur)) (fun _ _ i _ => s.size - (intOf i).toNat)
  case atStart => exact ⟨_, 0, [], [], rfl, rfl, rfl, Nat.zero_le _, (Below.refl _ _).alloc (Nat.le_refl _) _, OwT.fresh _ _ (Nat.le_refl _), by simp, Wd.start _, Nat.le_refl _⟩
  case round =>
    obtain ⟨v, k, O, cur, rfl, rfl, rfl, H⟩ := hrel
    have hk := H.out.hk
    have HO : Hid (O.length ≤ 65536) := by have := H.out.ln; show _ ≤ _; split at this <;> omega
    by_cases hlt : k < s.size
    · have hlti : (k : Int) < s.size := by omega
      have HD := drop_at s k hlt
      by_cases h35 : (s[k].toNat : Int) = 35
      · have hb : ((s[k].toNat : Int) == 35) = true := by rw [h35]; rfl
        have HR : Hid (wx s.data.toList [] = some (O ++ fw cur)) := by
          have h1 := H.out.wd
          rw [HD] at h1
          exact h1.hash (by omega)
        clear h35 HD
        by_cases hc : cur = []
        · subst hc
          have hE : (tx []).toList.isEmpty = true := tx_empty
          have HR2 : Hid (wx s.data.toList [] = some O) := by have := HR.out; rw [fw_nil, List.append_nil] at this; exact this
          go_wp2
          go_ret2
          exact ⟨v, 0, rfl, H.out.bl, .inl ⟨O, HR2.out, rfl, H.out.ow⟩⟩
        · have hE : (tx cur).toList.isEmpty = false := tx_full hc
          have HR2 : Hid (wx s.data.toList [] = some (O ++ [cur])) := by have := HR.out; rw [fw_ne hc] at this; exact this
          go_wp2_with (at_builtin; refine wpList_appT (by rfl) _ _ 22 (by rfl) Try.underlying22 w.heap.size _ O (by rfl) wr.heap.size cur (by rfl) (by have := HO.out; omega) (by have := H.out.bl.size; simp; omega) (H.out.ow.alloc _) (by rw [World.cell?_alloc_new]; rfl) ?_; intro v2 w3 ho hg)
          have HN : Hid (Below w.heap.size w w3 ∧ OwT w3 w.heap.size v2 (O ++ [cur])) := ⟨(H.out.bl.alloc H.out.bl.size _).grown hg (by have := H.out.bl.size; simp; omega) (fun j e => (H.out.ow.lt j e).1), ho⟩
          clear ho hg
          go_wp2
          go_ret2
          exact ⟨v2, 0, rfl, HN.out.1, .inl ⟨_, HR2.out, rfl, HN.out.2⟩⟩

      · have hb : ((s[k].toNat : Int) == 35) = false := by rw [beq_eq_false_iff_ne]; exact h35
        by_cases hbl : (s[k].toNat : Int) = 32 ∨ (s[k].toNat : Int) = 9
        · obtain ⟨B32, h32⟩ : ∃ B : Bool, ((s[k].toNat : Int) == 32) = B := ⟨_, rfl⟩
          have h9 : B32 = false → ((s[k].toNat : Int) == 9) = true := fun h => by
            rw [← h32, beq_eq_false_iff_ne] at h
            rw [beq_iff_eq]; omega
          have HW : Hid (Wd s.data.toList (O ++ fw cur) [] (s.data.toList.drop (k + 1))) := by
            have h1 := H.out.wd
            rw [HD] at h1
            exact h1.blank (by omega)
          clear HD h35 hbl
          by_cases hc : cur = []
          · subst hc
            have hE : (tx []).toList.isEmpty = true := tx_empty
            have HN : Hid (R1 s w wr v (k + 1) O []) := ⟨hlt, H.out.bl, H.out.ow, by have := H.out.ln; simp at this ⊢; omega, by have := HW.out; rw [fw_nil, List.append_nil] at this; exact this, Nat.zero_le _⟩
            cases B32
            all_goals
              try have h9' := h9 rfl
              clear h9
              go_wp2
              refine ⟨⟨v, k + 1, O, [], rfl, rfl, by go_num, HN⟩, by simp [intOf]; omega⟩
          · have hE : (tx cur).toList.isEmpty = false := tx_full hc
            have HC : Hid (cur ≠ []) := hc
            clear hc
            cases B32
            all_goals
              try have h9' := h9 rfl
              clear h9
              go_wp2_with (at_builtin; refine wpList_appT (by rfl) _ _ 22 (by rfl) Try.underlying22 w.heap.size _ O (by rfl) wr.heap.size cur (by rfl) (by have := HO.out; omega) (by have := H.out.bl.size; simp; omega) (H.out.ow.alloc _) (by rw [World.cell?_alloc_new]; rfl) ?_; intro v2 w3 ho hg)
              have HN : Hid (R1 s w w3 v2 (k + 1) (O ++ [cur]) []) := ⟨hlt, (H.out.bl.alloc H.out.bl.size _).grown hg (by have := H.out.bl.size; simp; omega) (fun j e => (H.out.ow.lt j e).1), ho, by have := H.out.ln; rw [if_neg HC.out] at this; simp; omega, by have := HW.out; rw [fw_ne HC.out] at this; exact this, Nat.zero_le _⟩
              clear ho hg
              go_wp2
              refine ⟨⟨v2, k + 1, O ++ [cur], [], rfl, rfl, by go_num, HN⟩, by simp [intOf]; omega⟩
        · have hb2 : ((s[k].toNat : Int) == 32) = false := by rw [beq_eq_false_iff_ne]; omega
          have hb3 : ((s[k].toNat : Int) == 9) = false := by rw [beq_eq_false_iff_ne]; omega
          by_cases hbad : (s[k].toNat : Int) < 33 ∨ 126 < (s[k].toNat : Int)
          · have HR : Hid (wx s.data.toList [] = none) := by
              have h1 := H.out.wd
              rw [HD] at h1
              exact h1.bad (by omega) (by omega)
            clear HD h35 hbl
            rcases hbad with hbad | hbad
            all_goals
              go_wp2
              go_ret2
              exact ⟨_, 50, rfl, H.out.bl, .inr ⟨HR.out, rfl, rfl⟩⟩
          · have h33 : 33 ≤ (s[k].toNat : Int) := by omega
            have h126 : (s[k].toNat : Int) ≤ 126 := by omega
            have HN : Hid (R1 s w wr v (k + 1) O (cur ++ [s[k]])) := by
              have h1 := H.out.wd
              rw [HD] at h1
              exact ⟨hlt, H.out.bl, H.out.ow, by have := H.out.ln; rw [if_neg (by simp)]; split at this <;> omega, h1.byte (by omega), by have := H.out.cl; simp; omega⟩
            have HX := tx_add cur s k hlt
            have hlt2 : (k : Int) + 1 ≤ s.size := by omega
            have hcat : ¬ 9223372036854775807 < (tx cur).size + (min (k + 1) s.size - k) := by rw [tx_size]; have := H.out.cl; omega
            clear HD h35 hbl hbad
            go_wp2
            refine ⟨⟨v, k + 1, O, cur ++ [s[k]], rfl, by rw [← HX], by go_num, HN⟩, by simp [intOf]; omega⟩
    · have HR : Hid (wx s.data.toList [] = some (O ++ fw cur)) := by
        have h1 := H.out.wd
        rw [drop_none s k (by omega)] at h1
        exact h1.done
      by_cases hc : cur = []
      · subst hc
        have hE : (tx []).toList.isEmpty = true := tx_empty
        have HR2 : Hid (wx s.data.toList [] = some O) := by have := HR.out; rw [fw_nil, List.append_nil] at this; exact this
        go_wp2
        go_ret2
        exact ⟨v, 0, rfl, H.out.bl, .inl ⟨O, HR2.out, rfl, H.out.ow⟩⟩
      · have hE : (tx cur).toList.isEmpty = false := tx_full hc
        have HR2 : Hid (wx s.data.toList [] = some (O ++ [cur])) := by have := HR.out; rw [fw_ne hc] at this; exact this
        go_wp2_with (at_builtin; refine wpList_appT (by rfl) _ _ 22 (by rfl) Try.underlying22 w.heap.size _ O (by rfl) wr.heap.size cur (by rfl) (by have := HO.out; omega) (by have := H.out.bl.size; simp; omega) (H.out.ow.alloc _) (by rw [World.cell?_alloc_new]; rfl) ?_; intro v2 w3 ho hg)
        have HN : Hid (Below w.heap.size w w3 ∧ OwT w3 w.heap.size v2 (O ++ [cur])) := ⟨(H.out.bl.alloc H.out.bl.size _).grown hg (by have := H.out.bl.size; simp; omega) (fun j e => (H.out.ow.lt j e).1), ho⟩
        clear ho hg
        go_wp2
        go_ret2
        exact ⟨v2, 0, rfl, HN.out.1, .inl ⟨_, HR2.out, rfl, HN.out.2⟩⟩

set_option maxHeartbeats 1000000 in
theorem sameTexts_any (u v : Value) (ts : List (List UInt8)) (w : World) (hu : Rt w u ts) (hv : Rt w v ts) (hl : ts.length ≤ 10000000) :
    Calls Try.prog 6 #[u, v] w fun e w' => e = .returned (.bool true) ∧ ∃ n, w' = w.drewN n := by
  obtain ⟨ao, ca, rfl, h1, h2⟩ := hu
  obtain ⟨bo, cb, rfl, h3, h4⟩ := hv
  obtain ⟨L, hL⟩ : ∃ L, L = ts.length := ⟨_, rfl⟩
  rw [← hL]
  have HH : Hid (L = ts.length ∧ (∀ k (hk : k < ts.length), ∃ g o, ao = some ⟨g, o, none⟩ ∧ g < w.heap.size ∧ w.cell? ⟨g, o + k, none⟩ = some (.string (tx ts[k]))) ∧ (∀ k (hk : k < ts.length), ∃ g o, bo = some ⟨g, o, none⟩ ∧ g < w.heap.size ∧ w.cell? ⟨g, o + k, none⟩ = some (.string (tx ts[k])))) := ⟨hL, h2, h4⟩
  have hLi : (L : Int) ≤ 10000000 := by omega
  clear h1 h2 h3 h4 hL hl
  go_enter Try.func6, Try.ntmps6
  go_wp2
  go_loopw [5] (fun i wr => ∃ (k n : Nat), i = .int .i64 (k : Int) ∧ k ≤ L ∧ wr = w.drewN n) (fun i _ => L - (intOf i).toNat)
  case atStart => exact ⟨0, 0, rfl, Nat.zero_le _, rfl⟩
  case round =>
    obtain ⟨k, n, rfl, hk, rfl⟩ := hrel
    by_cases hlt : k < L
    · have hlti : (k : Int) < L := by omega
      obtain ⟨g, o, rfl, hg, hc⟩ := HH.out.2.1 k (by have := HH.out.1; omega)
      obtain ⟨g', o', rfl, hg', hc'⟩ := HH.out.2.2 k (by have := HH.out.1; omega)
      obtain ⟨X, hX⟩ : ∃ X, X = tx (ts[k]'(by have := HH.out.1; omega)) := ⟨_, rfl⟩
      rw [← hX] at hc hc'
      clear hX
      go_wp2
      go_region
      go_wp2
      exact ⟨⟨k + 1, n + 1, by go_num, by omega, rfl⟩, by simp [intOf]; omega⟩
    · go_wp2
      go_ret
      exact ⟨rfl, n, rfl⟩
theorem wx_len : ∀ (l cur : List UInt8) (ts : List (List UInt8)), wx l cur = some ts → ts.length ≤ l.length + (fw cur).length := by
  intro l
  induction l with
  | nil => intro cur ts h; rw [wx_nil] at h; injection h with h; rw [← h]; simp
  | cons c r ih =>
    intro cur ts h
    by_cases h1 : c.toNat = 35
    · rw [wx_hash h1] at h; injection h with h; rw [← h]; simp
    · by_cases h2 : c.toNat = 32 ∨ c.toNat = 9
      · rw [wx_blank h2] at h
        cases hr : wx r [] with
        | none => rw [hr] at h; cases h
        | some us =>
          rw [hr] at h
          injection h with h
          have := ih [] us hr
          rw [← h, List.length_append, List.length_cons]
          rw [fw_nil] at this
          simp at this
          omega
      · by_cases h3 : c.toNat < 33 ∨ 126 < c.toNat
        · rw [wx_bad h3 h2] at h; cases h
        · rw [wx_byte (by omega)] at h
          have := ih _ ts h
          rw [fw_ne (by simp)] at this
          simp at this ⊢
          omega
/-- two answers of one line -/
theorem WE.agree {s : ByteArray} {w w1 w2 : World} {v1 v2 : Value} {n1 n2 : Int} (h1 : WE s w w1 v1 n1) (h2 : WE s w1 w2 v2 n2) (hb : Below w1.heap.size w1 w2) : n1 = n2 ∧ ∃ ts, Rt w2 v1 ts ∧ Rt w2 v2 ts ∧ ts.length ≤ s.size := by
  rcases h1 with ⟨t1, e1, r1, o1⟩ | ⟨e1, r1, o1⟩
  · rcases h2 with ⟨t2, e2, r2, o2⟩ | ⟨e2, r2, o2⟩
    · rw [e1] at e2
      injection e2 with e2
      subst e2
      refine ⟨by rw [r1, r2], t1, o1.rt.below hb (Nat.le_refl _), o2.rt, ?_⟩
      have := wx_len _ _ _ e1
      rw [fw_nil] at this
      simpa using this
    · rw [e1] at e2; cases e2
  · rcases h2 with ⟨t2, e2, r2, o2⟩ | ⟨e2, r2, o2⟩
    · rw [e1] at e2; cases e2
    · refine ⟨by rw [r1, r2], [], ⟨none, 0, o1, Nat.le_refl _, fun k hk => absurd hk (by simp)⟩, ⟨none, 0, o2, Nat.le_refl _, fun k hk => absurd hk (by simp)⟩, by simp⟩
set_option maxHeartbeats 1000000 in
theorem ConfWords_row (s : ByteArray) (w : World) (_ : s.size ≤ maxLen) :
    Calls Try.prog 3 #[.string s] w fun e w' => e = .returned (.bool true) ∧ Below w.heap.size w w' := by
  by_cases hs : s.size ≤ 65536
  · have hsi : (s.size : Int) ≤ 65536 := by omega
    go_enter Try.func3, Try.ntmps3
    go_wp2_with (go_at_call 4; refine (words_any s _ hs).mono ?_; rintro e w1 ⟨v1, n1, rfl, hb1, hw1⟩)
    refine (rwords_any s _ hs).mono ?_
    rintro e w2 ⟨v2, n2, rfl, hb2, hw2⟩
    obtain ⟨rfl, ts, t1, t2, tl⟩ := hw1.agree hw2 hb2
    have HS : Hid (Below w.heap.size w w2 ∧ Rt w2 v1 ts ∧ Rt w2 v2 ts ∧ ts.length ≤ s.size) := ⟨hb1.trans (hb2.mono hb1.size), t1, t2, tl⟩
    clear hb1 hb2 hw1 hw2 t1 t2 tl
    go_wp2_with (go_at_call 6; refine (sameTexts_any _ _ ts _ HS.out.2.1 HS.out.2.2.1 (by have := HS.out.2.2.2; omega)).mono ?_; rintro e w3 ⟨rfl, n3, rfl⟩)
    go_ret
    exact ⟨rfl, below_drewN HS.out.1 n3⟩
  · have hsi : (65536 : Int) < s.size := by omega
    go_enter Try.func3, Try.ntmps3
    go_wp2
    go_ret
    exact ⟨rfl, Below.refl _ _⟩
end Go.Proofs.Ytchhcipoicpglaa
