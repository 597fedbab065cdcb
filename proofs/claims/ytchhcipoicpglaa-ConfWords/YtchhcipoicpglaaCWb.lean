/- What Words of package conf returns. -/
import Derived.Test.YtchhcipoicpglaaCWa
import Derived.Test.YtchhcipoicpglaaShelf
namespace Go.Proofs.Ytchhcipoicpglaa
open Go.RowKit
theorem ret_bool' {a b : Bool} (h : a = b) : Ending.returned (.bool a) = .returned (.bool b) := by rw [h]
set_option maxHeartbeats 400000 in
theorem iwb_any (c : UInt8) (w : World) :
    Calls Try.prog 7 #[.int .u8 (c.toNat : Int)] w fun e w' => e = .returned (.bool (bw c)) ∧ w' = w := by
  go_enter Try.func7, Try.ntmps7
  go_wp2
  all_goals
    go_ret
    exact ⟨ret_bool' (by unfold bw; rw [Bool.eq_iff_iff]; simp at *; omega), rfl⟩
set_option maxHeartbeats 400000 in
theorem sclone_any (s : ByteArray) (w : World) (h : s.size ≤ 1000000) :
    Calls Try.prog 8 #[.string s] w fun e w' => e = .returned (.string s) ∧ Below w.heap.size w w' := by
  go_enter Try.func8, Try.ntmps8
  go_wp2_with (go_at_call 9; refine (Try.stringslite_Clone _ _ (by omega)).mono ?_; rintro e w' ⟨rfl, hb⟩)
  go_ret
  exact ⟨rfl, hb⟩
/-- the frame at a label -/
def FrW (s : ByteArray) (v : Value) (k f : Int) (a : Act) : Prop := ∃ u7 u8 u9 u10 u11 u12 u13 u14 u15 u16 u17 u18 u19 u20 u21 u22 u23 u24 u25 u26 u27 u28 u29 u30 u31 u32 u33 u34 u35 u36 u37 u38 u39 u40 u41 u42 u43 u44 u45 u46 u47 u48 u49 u50 u51 u52 u53 u54 u55 : Value, a = { tmps := #[.string s, undef, .slice none 0 0, .int .i64 0, v, .int .i64 k, .int .i64 f, u7, u8, u9, u10, u11, u12, u13, u14, u15, u16, u17, u18, u19, u20, u21, u22, u23, u24, u25, u26, u27, u28, u29, u30, u31, u32, u33, u34, u35, u36, u37, u38, u39, u40, u41, u42, u43, u44, u45, u46, u47, u48, u49, u50, u51, u52, u53, u54, u55], defers := [] }
/-- what Words answers -/
def WE (s : ByteArray) (w w' : World) (v : Value) (n : Int) : Prop := (∃ ts, wx s.data.toList [] = some ts ∧ n = 0 ∧ OwT w' w.heap.size v ts) ∨ (wx s.data.toList [] = none ∧ n = 50 ∧ v = .slice none 0 0)
structure W1 (s : ByteArray) (w w' : World) (v : Value) (k : Nat) (O : List (List UInt8)) : Prop where
  hk : k ≤ s.size
  bl : Below w.heap.size w w'
  ow : OwT w' w.heap.size v O
  ln : O.length ≤ k
  wd : Wd s.data.toList O [] (s.data.toList.drop k)
structure W3 (s : ByteArray) (w w' : World) (v : Value) (k f : Nat) (O : List (List UInt8)) : Prop where
  hf : f ≤ k
  hk : k < s.size
  bl : Below w.heap.size w w'
  ow : OwT w' w.heap.size v O
  ln : O.length ≤ f
  wd : Wd s.data.toList O ((s.data.toList.drop f).take (k + 1 - f)) (s.data.toList.drop (k + 1))
/-- what holds at the labels: 0 end, 1 between, 2 wrong, 3 within -/
def WJ (s : ByteArray) (w : World) (l : Nat) (a : Act) (w' : World) : Prop :=
  (l = 0 ∧ ∃ v k f O, FrW s v k f a ∧ Hid (Below w.heap.size w w' ∧ wx s.data.toList [] = some O ∧ OwT w' w.heap.size v O)) ∨
  (l = 1 ∧ ∃ v, ∃ k : Nat, ∃ f O, FrW s v k f a ∧ Hid (W1 s w w' v k O)) ∨
  (l = 2 ∧ ∃ v k f, FrW s v k f a ∧ Hid (Below w.heap.size w w' ∧ wx s.data.toList [] = none)) ∨
  (l = 3 ∧ ∃ v, ∃ k f : Nat, ∃ O, FrW s v k f a ∧ Hid (W3 s w w' v k f O))
def wM (s : ByteArray) (l : Nat) (a : Act) (_ : World) : Nat := if l = 1 then 2 * (s.size - (intOf (a.tmps.getD 5 undef)).toNat) + 2 else if l = 3 then 2 * (s.size - (intOf (a.tmps.getD 5 undef)).toNat) + 1 else 0
theorem take_more (l : List UInt8) (f k : Nat) (c : UInt8) (r : List UInt8) (hf : f ≤ k + 1) (h : l.drop (k + 1) = c :: r) : (l.drop f).take (k + 1 + 1 - f) = (l.drop f).take (k + 1 - f) ++ [c] := by
  have hk : k + 1 < l.length := by
    rcases Nat.lt_or_ge (k + 1) l.length with g | g
    · exact g
    · rw [List.drop_eq_nil_of_le g] at h; cases h
  have hc : l[k + 1] = c := by rw [List.drop_eq_getElem_cons hk] at h; injection h
  rw [show k + 1 + 1 - f = (k + 1 - f) + 1 by omega, List.take_succ_eq_append_getElem (by rw [List.length_drop]; omega), List.getElem_drop]
  congr 2
  rw [← hc]
  congr 1
  omega
theorem take_first (l : List UInt8) (k : Nat) (c : UInt8) (r : List UInt8) (h : l.drop k = c :: r) : (l.drop k).take (k + 1 - k) = [] ++ [c] := by
  rw [h, show k + 1 - k = 1 by omega]; rfl
theorem bw_of {c : UInt8} (h : bw c = true) : 33 ≤ c.toNat ∧ c.toNat ≤ 126 ∧ c.toNat ≠ 35 := by
  unfold bw at h; rw [decide_eq_true_eq] at h; omega
theorem bw_not {c : UInt8} (h : bw c = false) : ¬ (33 ≤ c.toNat ∧ c.toNat ≤ 126 ∧ c.toNat ≠ 35) := by
  unfold bw at h; rw [decide_eq_false_iff_not] at h; omega
/-- a word is appended -/
theorem W3.word {s : ByteArray} {w w' w'' : World} {v v' : Value} {k f : Nat} {O : List (List UInt8)} (h : W3 s w w' v k f O) (hb : Below w.heap.size w w'') (ho : OwT w'' w.heap.size v' (O ++ [(s.data.toList.drop f).take (k + 1 - f)])) (hn : k + 1 = s.size ∨ ∃ hlt : k + 1 < s.size, bw s[k + 1] = false) : W1 s w w'' v' (k + 1) (O ++ [(s.data.toList.drop f).take (k + 1 - f)]) := by
  have hk := h.hk
  have hf := h.hf
  refine ⟨h.hk, hb, ho, by have := h.ln; simp; omega, ?_⟩
  have hne : (s.data.toList.drop f).take (k + 1 - f) ≠ [] := by
    intro e
    have := congrArg List.length e
    rw [List.length_take, List.length_drop] at this
    simp at this
    omega
  have := h.wd.word (fun c r e => by
    rcases hn with hn | ⟨hlt, hn⟩
    · rw [drop_none s (k + 1) (by omega)] at e; cases e
    · rw [drop_at s (k + 1) hlt] at e; injection e with e1 _; rw [← e1]; exact hn)
  rw [fw_ne hne] at this
  exact this
theorem WJ.at1 {s : ByteArray} {w w' : World} {a : Act} (h : WJ s w 1 a w') : ∃ v, ∃ k : Nat, ∃ f O, FrW s v k f a ∧ Hid (W1 s w w' v k O) := by
  rcases h with ⟨h0, _⟩ | ⟨_, h1⟩ | ⟨h0, _⟩ | ⟨h0, _⟩
  · cases h0
  · exact h1
  · cases h0
  · cases h0
theorem WJ.at3 {s : ByteArray} {w w' : World} {a : Act} (h : WJ s w 3 a w') : ∃ v, ∃ k f : Nat, ∃ O, FrW s v k f a ∧ Hid (W3 s w w' v k f O) := by
  rcases h with ⟨h0, _⟩ | ⟨h0, _⟩ | ⟨h0, _⟩ | ⟨_, h1⟩
  · cases h0
  · cases h0
  · cases h0
  · exact h1
set_option maxRecDepth 4000 in
set_option maxHeartbeats 2000000 in
theorem words_any (s : ByteArray) (w : World) (hs : s.size ≤ 65536) :
    Calls Try.prog 4 #[.string s] w fun e w' => ∃ v n, e = .returned (.tuple #[v, .int .i64 n]) ∧ Below w.heap.size w w' ∧ WE s w w' v n := by
  have hsi : (s.size : Int) ≤ 65536 := by omega
  go_enter Try.func4, Try.ntmps4
  go_wp2
  refine wp_scope_two 1 3 (WJ s w) (wM s) rfl rfl ?_ ?_ ?_ ?_
  · intro a w' M hJ hM
    obtain ⟨v, k, f, O, ⟨u7, u8, u9, u10, u11, u12, u13, u14, u15, u16, u17, u18, u19, u20, u21, u22, u23, u24, u25, u26, u27, u28, u29, u30, u31, u32, u33, u34, u35, u36, u37, u38, u39, u40, u41, u42, u43, u44, u45, u46, u47, u48, u49, u50, u51, u52, u53, u54, u55, rfl⟩, H⟩ := hJ.at3
    have HM : Hid (2 * (s.size - k) + 1 ≤ M) := by have h := hM; simp [wM, intOf] at h; exact h
    clear hM hJ
    have hf := H.out.hf
    have hk := H.out.hk
    have hfi : (f : Int) ≤ k := by omega
    have hki : (k : Int) < s.size := by omega
    have HO : Hid (O.length ≤ 65536) := by have := H.out.ln; show _ ≤ _; omega
    by_cases hlt : k + 1 < s.size
    · have hlti : (k : Int) + 1 < s.size := by omega
      cases hw : bw (s[k + 1]'hlt)
      · have HW : Hid (bw (s[k + 1]'hlt) = false) := hw
        go_wp2_with (first | (go_at_call 7; refine (iwb_any _ _).mono ?_; rintro e w9 ⟨rfl, hw9⟩; rw [hw9]; clear hw9) | (go_at_call 8; refine (sclone_any _ _ (by rw [ByteArray.size_extract]; omega)).mono ?_; rintro e w2 ⟨rfl, hb2⟩) | (at_builtin; refine wpList_appT (by rfl) _ _ 22 (by rfl) Try.underlying22 w.heap.size v O (by rfl) w2.heap.size ((s.data.toList.drop f).take (k + 1 - f)) (by rfl) (by have := HO.out; omega) (by have := H.out.bl.size; have := hb2.size; simp; omega) ((H.out.ow.below hb2 (Nat.le_refl _)).alloc _) (by rw [World.cell?_alloc_new, ← extract_tx]; rfl) ?_; intro v2 w3 ho hg))
        have hb3 : Below w.heap.size w w3 := ((H.out.bl.trans (hb2.mono H.out.bl.size)).alloc (by have := H.out.bl.size; have := hb2.size; omega) _).grown hg (by have := H.out.bl.size; have := hb2.size; simp; omega) (fun j e => (H.out.ow.lt j e).1)
        have HN : Hid (W1 s w w3 v2 (k + 1) (O ++ [(s.data.toList.drop f).take (k + 1 - f)])) := H.out.word hb3 ho (.inr ⟨hlt, HW.out⟩)
        clear ho hg hb2 hb3
        go_wp2
        go_step3
        refine ⟨.inr (.inl ⟨rfl, v2, k + 1, _, _, ⟨_, _, _, _, _, _, _, _, _, _, _, _, _, _, _, _, _, _, _, _, _, _, _, _, _, _, _, _, _, _, _, _, _, _, _, _, _, _, _, _, _, _, _, _, _, _, _, _, _, rfl⟩, HN⟩), ?_⟩
        have hM := HM.out
        simp [wM, intOf]; omega

      · have HN : Hid (W3 s w w' v (k + 1) f O) := by
          have h1 := H.out.wd
          rw [drop_at s (k + 1) hlt] at h1
          have := h1.byte (bw_of hw)
          exact ⟨by omega, hlt, H.out.bl, H.out.ow, H.out.ln, by rw [take_more _ f k _ _ (by omega) (drop_at s (k + 1) hlt)]; exact this⟩
        go_wp2_with (go_at_call 7; refine (iwb_any _ _).mono ?_; rintro e w9 ⟨rfl, hw9⟩; rw [hw9]; clear hw9)
        go_step3
        refine ⟨.inr (.inr (.inr ⟨rfl, v, k + 1, f, O, ⟨_, _, _, _, _, _, _, _, _, _, _, _, _, _, _, _, _, _, _, _, _, _, _, _, _, _, _, _, _, _, _, _, _, _, _, _, _, _, _, _, _, _, _, _, _, _, _, _, _, rfl⟩, HN⟩)), ?_⟩
        have hM := HM.out
        simp [wM, intOf]; omega
    · have hlti : (s.size : Int) = k + 1 := by omega
      go_wp2_with (first | (go_at_call 7; refine (iwb_any _ _).mono ?_; rintro e w9 ⟨rfl, hw9⟩; rw [hw9]; clear hw9) | (go_at_call 8; refine (sclone_any _ _ (by rw [ByteArray.size_extract]; omega)).mono ?_; rintro e w2 ⟨rfl, hb2⟩) | (at_builtin; refine wpList_appT (by rfl) _ _ 22 (by rfl) Try.underlying22 w.heap.size v O (by rfl) w2.heap.size ((s.data.toList.drop f).take (k + 1 - f)) (by rfl) (by have := HO.out; omega) (by have := H.out.bl.size; have := hb2.size; simp; omega) ((H.out.ow.below hb2 (Nat.le_refl _)).alloc _) (by rw [World.cell?_alloc_new, ← extract_tx]; rfl) ?_; intro v2 w3 ho hg))
      have hb3 : Below w.heap.size w w3 := ((H.out.bl.trans (hb2.mono H.out.bl.size)).alloc (by have := H.out.bl.size; have := hb2.size; omega) _).grown hg (by have := H.out.bl.size; have := hb2.size; simp; omega) (fun j e => (H.out.ow.lt j e).1)
      have HN : Hid (W1 s w w3 v2 (k + 1) (O ++ [(s.data.toList.drop f).take (k + 1 - f)])) := H.out.word hb3 ho (.inl (by omega))
      clear ho hg hb2 hb3
      go_wp2
      go_step3
      refine ⟨.inr (.inl ⟨rfl, v2, k + 1, _, _, ⟨_, _, _, _, _, _, _, _, _, _, _, _, _, _, _, _, _, _, _, _, _, _, _, _, _, _, _, _, _, _, _, _, _, _, _, _, _, _, _, _, _, _, _, _, _, _, _, _, _, rfl⟩, HN⟩), ?_⟩
      have hM := HM.out
      simp [wM, intOf]; omega

  · intro a w' M hJ hM P3
    obtain ⟨v, k, f, O, ⟨u7, u8, u9, u10, u11, u12, u13, u14, u15, u16, u17, u18, u19, u20, u21, u22, u23, u24, u25, u26, u27, u28, u29, u30, u31, u32, u33, u34, u35, u36, u37, u38, u39, u40, u41, u42, u43, u44, u45, u46, u47, u48, u49, u50, u51, u52, u53, u54, u55, rfl⟩, H⟩ := hJ.at1
    have HM : Hid (M = 2 * (s.size - k) + 2) := by show _ = _; rw [← hM]; simp [wM, intOf]
    have HP : Hid (∀ a w', WJ s w 3 a w' → wM s 3 a w' ≤ M → _) := P3
    clear hM hJ P3
    have hk := H.out.hk
    by_cases hlt : k < s.size
    · have hlti : (k : Int) < s.size := by omega
      have hne : ((k : Int) == (s.size : Int)) = false := by rw [beq_eq_false_iff_ne]; omega
      have HD := drop_at s k hlt
      by_cases h35 : (s[k].toNat : Int) = 35
      · have hb : ((s[k].toNat : Int) == 35) = true := by rw [h35]; rfl
        have HR : Hid (wx s.data.toList [] = some O) := by
          have h1 := H.out.wd
          rw [HD] at h1
          have := h1.hash (by omega)
          rw [fw_nil, List.append_nil] at this
          exact this
        clear HD h35 HP
        go_wp2
        go_step3
        refine ⟨.inl ⟨rfl, v, _, _, O, ⟨_, _, _, _, _, _, _, _, _, _, _, _, _, _, _, _, _, _, _, _, _, _, _, _, _, _, _, _, _, _, _, _, _, _, _, _, _, _, _, _, _, _, _, _, _, _, _, _, _, rfl⟩, H.out.bl, HR.out, H.out.ow⟩, ?_⟩
        rw [HM.out]; simp [wM]
      · have hb : ((s[k].toNat : Int) == 35) = false := by rw [beq_eq_false_iff_ne]; exact h35
        by_cases hbl : (s[k].toNat : Int) = 32 ∨ (s[k].toNat : Int) = 9
        · have HN : Hid (W1 s w w' v (k + 1) O) := by
            have h1 := H.out.wd
            rw [HD] at h1
            have := h1.blank (by omega)
            rw [fw_nil, List.append_nil] at this
            exact ⟨hlt, H.out.bl, H.out.ow, Nat.le_succ_of_le H.out.ln, this⟩
          clear HD h35 HP
          rcases hbl with h32 | h9
          · have hb2 : ((s[k].toNat : Int) == 32) = true := by rw [h32]; rfl
            clear h32
            go_wp2
            go_step3
            refine ⟨.inr (.inl ⟨rfl, v, k + 1, _, O, ⟨_, _, _, _, _, _, _, _, _, _, _, _, _, _, _, _, _, _, _, _, _, _, _, _, _, _, _, _, _, _, _, _, _, _, _, _, _, _, _, _, _, _, _, _, _, _, _, _, _, rfl⟩, HN⟩), ?_⟩
            rw [HM.out]; simp [wM, intOf]; omega
          · have hb2 : ((s[k].toNat : Int) == 32) = false := by rw [h9]; rfl
            have hb3 : ((s[k].toNat : Int) == 9) = true := by rw [h9]; rfl
            clear h9
            go_wp2
            go_step3
            refine ⟨.inr (.inl ⟨rfl, v, k + 1, _, O, ⟨_, _, _, _, _, _, _, _, _, _, _, _, _, _, _, _, _, _, _, _, _, _, _, _, _, _, _, _, _, _, _, _, _, _, _, _, _, _, _, _, _, _, _, _, _, _, _, _, _, rfl⟩, HN⟩), ?_⟩
            rw [HM.out]; simp [wM, intOf]; omega
        · have hb2 : ((s[k].toNat : Int) == 32) = false := by rw [beq_eq_false_iff_ne]; omega
          have hb3 : ((s[k].toNat : Int) == 9) = false := by rw [beq_eq_false_iff_ne]; omega
          cases hw : bw s[k]
          · have HR : Hid (wx s.data.toList [] = none) := by
              have h1 := H.out.wd
              rw [HD] at h1
              have := bw_not hw
              exact h1.bad (by omega) (by omega)
            clear HD h35 hbl HP
            go_wp2_with (go_at_call 7; refine (iwb_any _ _).mono ?_; rintro e w9 ⟨rfl, hw9⟩; rw [hw9]; clear hw9)
            go_step3
            refine ⟨.inr (.inr (.inl ⟨rfl, v, _, _, ⟨_, _, _, _, _, _, _, _, _, _, _, _, _, _, _, _, _, _, _, _, _, _, _, _, _, _, _, _, _, _, _, _, _, _, _, _, _, _, _, _, _, _, _, _, _, _, _, _, _, rfl⟩, H.out.bl, HR.out⟩)), ?_⟩
            rw [HM.out]; simp [wM]
          · have HN : Hid (W3 s w w' v k k O) := by
              have h1 := H.out.wd
              rw [HD] at h1
              have := h1.byte (bw_of hw)
              exact ⟨Nat.le_refl _, hlt, H.out.bl, H.out.ow, H.out.ln, by rw [take_first _ k _ _ HD]; exact this⟩
            clear HD h35 hbl
            go_wp2_with (go_at_call 7; refine (iwb_any _ _).mono ?_; rintro e w9 ⟨rfl, hw9⟩; rw [hw9]; clear hw9)
            go_step3
            rename_i hK
            refine hK _ _ (HP.out _ _ (.inr (.inr (.inr ⟨rfl, v, k, k, O, ⟨_, _, _, _, _, _, _, _, _, _, _, _, _, _, _, _, _, _, _, _, _, _, _, _, _, _, _, _, _, _, _, _, _, _, _, _, _, _, _, _, _, _, _, _, _, _, _, _, _, rfl⟩, HN⟩))) ?_)
            rw [HM.out]; simp [wM, intOf]
    · have he : (k : Int) = s.size := by omega
      have hb : ((k : Int) == (s.size : Int)) = true := by rw [he]; simp
      have HR : Hid (wx s.data.toList [] = some O) := by
        have h1 := H.out.wd
        rw [drop_none s k (by omega)] at h1
        have := h1.done
        rw [fw_nil, List.append_nil] at this
        exact this
      clear he HP
      go_wp2
      go_step3
      refine ⟨.inl ⟨rfl, v, _, _, O, ⟨_, _, _, _, _, _, _, _, _, _, _, _, _, _, _, _, _, _, _, _, _, _, _, _, _, _, _, _, _, _, _, _, _, _, _, _, _, _, _, _, _, _, _, _, _, _, _, _, _, rfl⟩, H.out.bl, HR.out, H.out.ow⟩, ?_⟩
      rw [HM.out]; simp [wM]
  · intro l a w' M n1 n3 hJ
    rcases hJ with ⟨rfl, v, k, f, O, ⟨u7, u8, u9, u10, u11, u12, u13, u14, u15, u16, u17, u18, u19, u20, u21, u22, u23, u24, u25, u26, u27, u28, u29, u30, u31, u32, u33, u34, u35, u36, u37, u38, u39, u40, u41, u42, u43, u44, u45, u46, u47, u48, u49, u50, u51, u52, u53, u54, u55, rfl⟩, H⟩ | ⟨h0, _⟩ | ⟨rfl, v, k, f, ⟨u7, u8, u9, u10, u11, u12, u13, u14, u15, u16, u17, u18, u19, u20, u21, u22, u23, u24, u25, u26, u27, u28, u29, u30, u31, u32, u33, u34, u35, u36, u37, u38, u39, u40, u41, u42, u43, u44, u45, u46, u47, u48, u49, u50, u51, u52, u53, u54, u55, rfl⟩, H⟩ | ⟨h0, _⟩
    · refine ⟨_, rfl, ?_⟩
      go_wp2
      simp only [exJ]
      go_ret2
      exact ⟨v, 0, rfl, H.out.1, .inl ⟨O, H.out.2.1, rfl, H.out.2.2⟩⟩
    · exact absurd h0 n1
    · refine ⟨_, rfl, ?_⟩
      go_wp2
      simp only [exJ]
      go_ret2
      exact ⟨_, 50, rfl, H.out.1, .inr ⟨H.out.2, rfl, rfl⟩⟩
    · exact absurd h0 n3
  · intro h1
    have H1 : Hid (∀ a w', WJ s w 1 a w' → _) := h1
    clear h1
    go_wp2
    go_step3
    rename_i hK
    exact hK _ _ (H1.out _ _ (.inr (.inl ⟨rfl, _, 0, 0, [], ⟨_, _, _, _, _, _, _, _, _, _, _, _, _, _, _, _, _, _, _, _, _, _, _, _, _, _, _, _, _, _, _, _, _, _, _, _, _, _, _, _, _, _, _, _, _, _, _, _, _, rfl⟩, Nat.zero_le _, Below.refl _ _, OwT.nil _ _, Nat.le_refl _, Wd.start _⟩)))
end Go.Proofs.Ytchhcipoicpglaa
