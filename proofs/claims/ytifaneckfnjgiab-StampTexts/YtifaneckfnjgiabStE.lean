/- What write of package stamp returns: the numbers in the form. -/
import Derived.Test.YtifaneckfnjgiabStC
import Derived.Test.YtifaneckfnjgiabTxt
import Derived.WalkKit
import Derived.WalkSpells
import Derived.WalkLawsBesides
import Derived.WalkMore
import Derived.Handy
import Derived.Below
import Derived.Deep.RegionHeld3
import Derived.Lib.SlBytesConst
namespace Go.Proofs.Ytifaneckfnjgiab
open Go.RowKit
/-- seven numbers by their place -/
def nums (y m d h n s u : Int) (j : Nat) : Int := [y, m, d, h, n, s, u].getD j 0
/-- what lies in memory when the places from k on are done -/
structure WS (w wr : World) (a : Nat → Int) (k : Nat) : Prop where
  bel : Below w.heap.size w wr
  top : w.heap.size + 1 < wr.heap.size
  num : ∀ j, j < 7 → wr.cell? ⟨w.heap.size, j, none⟩ = some (.int .i64 (Tx.dv (a j) (Tx.cn k j)))
  txt : ∀ p, p < 26 → wr.cell? ⟨w.heap.size + 1, p, none⟩ = some (.int .u8 (Tx.tx a k p))
  fnum : ∀ j, wr.frozen? ⟨w.heap.size, j, none⟩ = false
  ftxt : ∀ p, p < 26 → wr.frozen? ⟨w.heap.size + 1, p, none⟩ = false
theorem WS.start (w : World) (y m d h n s u : Int) (T E : TypeId) : WS w ((w.alloc (.cells #[.int .i64 y, .int .i64 m, .int .i64 d, .int .i64 h, .int .i64 n, .int .i64 s, .int .i64 u] T)).alloc (.cells #[.int .u8 48, .int .u8 48, .int .u8 48, .int .u8 48, .int .u8 45, .int .u8 48, .int .u8 48, .int .u8 45, .int .u8 48, .int .u8 48, .int .u8 32, .int .u8 48, .int .u8 48, .int .u8 58, .int .u8 48, .int .u8 48, .int .u8 58, .int .u8 48, .int .u8 48, .int .u8 46, .int .u8 48, .int .u8 48, .int .u8 48, .int .u8 48, .int .u8 48, .int .u8 48] E (26, 27))) (nums y m d h n s u) 26 := by
  refine ⟨?_, by simp, ?_, ?_, ?_, ?_⟩
  · exact ((Below.refl _ _).alloc (Nat.le_refl _) _).alloc (by simp) _
  · intro j hj
    rw [World.cell?_alloc_lt (h := by simp), World.cell?_alloc_new, Tx.cn_26 j hj]
    rcases j with _ | _ | _ | _ | _ | _ | _ | j
    all_goals first | rfl | omega
  · intro p hp
    have := World.cell?_alloc_mark (w.alloc (.cells #[.int .i64 y, .int .i64 m, .int .i64 d, .int .i64 h, .int .i64 n, .int .i64 s, .int .i64 u] T)) #[.int .u8 48, .int .u8 48, .int .u8 48, .int .u8 48, .int .u8 45, .int .u8 48, .int .u8 48, .int .u8 45, .int .u8 48, .int .u8 48, .int .u8 32, .int .u8 48, .int .u8 48, .int .u8 58, .int .u8 48, .int .u8 48, .int .u8 58, .int .u8 48, .int .u8 48, .int .u8 46, .int .u8 48, .int .u8 48, .int .u8 48, .int .u8 48, .int .u8 48, .int .u8 48] E (26, 27) p
    simp only [World.size_alloc] at this
    rw [this, Tx.tx_26 _ _ hp]
    have key : ∀ q : Nat, q < 26 → (#[(48 : Int), 48, 48, 48, 45, 48, 48, 45, 48, 48, 32, 48, 48, 58, 48, 48, 58, 48, 48, 46, 48, 48, 48, 48, 48, 48])[q]? = some (Tx.frm q : Int) := by decide
    have e := key p hp
    have e2 := congrArg (Option.map (Value.int .u8)) e
    rw [← Array.getElem?_map] at e2
    simpa using e2
  · intro j
    rw [World.frozen?_alloc_old (h := by simp), World.frozen?_alloc_new]
  · intro p hp
    have := World.frozen?_alloc_mark (w.alloc (.cells #[.int .i64 y, .int .i64 m, .int .i64 d, .int .i64 h, .int .i64 n, .int .i64 s, .int .i64 u] T)) #[.int .u8 48, .int .u8 48, .int .u8 48, .int .u8 48, .int .u8 45, .int .u8 48, .int .u8 48, .int .u8 45, .int .u8 48, .int .u8 48, .int .u8 32, .int .u8 48, .int .u8 48, .int .u8 58, .int .u8 48, .int .u8 48, .int .u8 58, .int .u8 48, .int .u8 48, .int .u8 46, .int .u8 48, .int .u8 48, .int .u8 48, .int .u8 48, .int .u8 48, .int .u8 48] E 26 27 p
    simp only [World.size_alloc] at this
    rw [this]
    simp; omega
theorem form_at : ∀ k (h : k < 26), ((⟨#[48, 48, 48, 48, 45, 48, 48, 45, 48, 48, 32, 48, 48, 58, 48, 48, 58, 48, 48, 46, 48, 48, 48, 48, 48, 48]⟩ : ByteArray)[k]'h).toNat = Tx.frm k := by decide
theorem WS.drew {w wr : World} {a : Nat → Int} {k : Nat} (h : WS w wr a k) : WS w wr.drew a k := ⟨h.bel.drew, h.top, h.num, h.txt, h.fnum, h.ftxt⟩
theorem WS.sep {w wr : World} {a : Nat → Int} {k : Nat} (h : WS w wr a (k + 1)) (hk : k < 26) (hf : Tx.frm k ≠ 48) : WS w wr a k :=
  ⟨h.bel, h.top, fun j hj => by rw [h.num j hj, Tx.cn_sep k hk hf j hj], fun p hp => by rw [h.txt p hp, Tx.tx_sep a k p hf], h.fnum, h.ftxt⟩
theorem WS.dig {w wr : World} {a : Nat → Int} {k : Nat} (h : WS w wr a (k + 1)) (hk : k < 26) (hf : Tx.frm k = 48) (v : Int) (hv : v = Tx.dv (a (Tx.fl (k + 1))) (Tx.cn (k + 1) (Tx.fl (k + 1)))) :
    WS w ((wr.setCell ⟨w.heap.size + 1, k, none⟩ (.int .u8 (48 + v % 10))).setCell ⟨w.heap.size, Tx.fl (k + 1), none⟩ (.int .i64 (v / 10))) a k := by
  have ef := Tx.fl_dig k hk hf
  have hF := Tx.fl_le k (by omega)
  rw [ef] at hv ⊢
  refine ⟨(h.bel.setCell (by simp) _).setCell (by simp) _, by simpa [World.setCell] using h.top, fun j hj => ?_, fun p hp => ?_, fun j => by simp [h.fnum j], fun p hp => by simp [h.ftxt p hp]⟩
  · by_cases e : j = Tx.fl k
    · subst e
      have c : (wr.setCell ⟨w.heap.size + 1, k, none⟩ (.int .u8 (48 + v % 10))).cell? ⟨w.heap.size, Tx.fl k, none⟩ = some (.int .i64 v) := by
        rw [World.cell?_setCell_other (h := by simp), h.num _ hj, hv]
      rw [World.cell?_setCell_same (h := c), Tx.cn_dig k hk hf, Tx.dv, hv]
    · have n1 : (⟨w.heap.size, Tx.fl k, none⟩ : Addr) ≠ ⟨w.heap.size, j, none⟩ := by intro x; injection x with _ x; exact e x.symm
      rw [World.cell?_setCell_other (h := n1), World.cell?_setCell_other (h := by simp), h.num j hj, Tx.cn_dig' k hk hf j hj e]
  · rw [World.cell?_setCell_other (h := by simp)]
    by_cases e : p = k
    · subst e
      rw [World.cell?_setCell_same (h := h.txt p hp), Tx.tx_dig a p hf, hv]
    · have n1 : (⟨w.heap.size + 1, k, none⟩ : Addr) ≠ ⟨w.heap.size + 1, p, none⟩ := by intro x; injection x with _ x; exact e x.symm
      rw [World.cell?_setCell_other (h := n1), h.txt p hp, Tx.tx_ne a k p e]
theorem nums_bd {y m d h n s u : Int} (y0 : 0 ≤ y) (y1 : y ≤ 999999) (m0 : 0 ≤ m) (m1 : m ≤ 999999) (d0 : 0 ≤ d) (d1 : d ≤ 999999) (h0 : 0 ≤ h) (h1 : h ≤ 999999) (n0 : 0 ≤ n) (n1 : n ≤ 999999) (s0 : 0 ≤ s) (s1 : s ≤ 999999) (u0 : 0 ≤ u) (u1 : u ≤ 999999) (j : Nat) : 0 ≤ nums y m d h n s u j ∧ nums y m d h n s u j ≤ 999999 := by
  rcases j with _ | _ | _ | _ | _ | _ | _ | j <;> simp [nums] <;> omega
set_option maxHeartbeats 1000000 in
theorem write_any (y m d h n s u : Int) (w : World) (hbd : ∀ j, 0 ≤ nums y m d h n s u j ∧ nums y m d h n s u j ≤ 999999) :
    Calls Try.prog 24 #[.agg #[.int .i64 y, .int .i64 m, .int .i64 d, .int .i64 h, .int .i64 n, .int .i64 s, .int .i64 u]] w fun e w' => e = .returned (.string ⟨(Tx.txt (nums y m d h n s u)).toArray⟩) ∧ Below w.heap.size w w' := by
  have HB : Hid (∀ j, 0 ≤ nums y m d h n s u j ∧ nums y m d h n s u j ≤ 999999) := hbd
  clear hbd
  have kc : ∀ (v : World) (C : Array Value) (o : Obj) (n c : Nat), Sem.run Try.prog (convert 67 67 (.slice (some ⟨v.heap.size + 1, 0, none⟩) n c)) ((v.alloc o).alloc (.cells C 5)) = .ok (.slice (some ⟨v.heap.size + 1, 0, none⟩) n c) ((v.alloc o).alloc (.cells C 5 (C.size, C.size + 1))) := fun v C o n c => by
    have := Lib.run_convert_bytes_const (P := Try.prog) (v.alloc o) 67 5 C n c Try.underlying67 Try.underlying5
    simpa using this
  have hst := WS.start w y m d h n s u 54 5
  have HST : Hid (WS w _ _ _) := hst
  clear hst
  go_enter Try.func24, Try.ntmps24
  go_wp2
  clear kc
  go_loopw [4, 5] (fun f i wr => ∃ k : Nat, k ≤ 26 ∧ f = .int .i64 (Tx.fl k : Int) ∧ i = .int .i64 ((k : Int) - 1) ∧ Hid (WS w wr (nums y m d h n s u) k)) (fun _ i _ => (intOf i + 1).toNat)
  case atStart => exact ⟨26, by omega, by rw [Tx.fl_26]; rfl, rfl, HST.out⟩
  case round =>
    clear HST
    obtain ⟨k, hk, rfl, rfl, hW⟩ := hrel
    rcases k with _ | k
    · have hcs := run_convert_bytes_back (P := Try.prog) wr 67 9 5 ⟨w.heap.size + 1, 0, none⟩ 26 (Tx.txt (nums y m d h n s u)) Try.underlying67 Try.underlying5 Try.underlying9 (fun p hp => by
        have e : (⟨w.heap.size + 1, 0, none⟩ : Addr).add p = ⟨w.heap.size + 1, p, none⟩ := by unfold Addr.add; split <;> simp_all
        have hp' : p < 26 := by rw [Tx.txt_len] at hp; exact hp
        rw [e, hW.out.txt p hp', Tx.tx_0, Tx.txt_at])
      rw [Tx.txt_len] at hcs
      go_wp2_with fail
      go_ret
      exact ⟨rfl, hW.out.bel⟩
    · have ek : ((k + 1 : Nat) : Int) - 1 = (k : Int) := by omega
      rw [ek]
      clear ek
      have hk' : k < 26 := by omega
      have hki : (k : Int) < 26 := by omega
      have hki0 : (0 : Int) ≤ (k : Int) := by omega
      have hform := form_at k hk'
      obtain ⟨F, hF⟩ : ∃ F : Nat, F = Tx.fl (k + 1) := ⟨_, rfl⟩
      have hF6 : (F : Int) < 7 := by have := Tx.fl_le (k + 1) (by omega); omega
      have hF0 : (0 : Int) ≤ (F : Int) := by omega
      rw [← hF]
      by_cases hf : Tx.frm k = 48
      · have hF7 : F < 7 := by omega
        have c1 : wr.cell? ⟨w.heap.size + 1, k, none⟩ = some (.int .u8 48) := by rw [hW.out.txt k hk', Tx.tx_at, hf]; rfl
        obtain ⟨v, hv⟩ : ∃ v, v = Tx.dv (nums y m d h n s u F) (Tx.cn (k + 1) F) := ⟨_, rfl⟩
        have c2 : wr.cell? ⟨w.heap.size, F, none⟩ = some (.int .i64 v) := by rw [hW.out.num F hF7, hv]
        have hvb := Tx.dv_bd (nums y m d h n s u F) (HB.out F).1 (Tx.cn (k + 1) F)
        have hv0 : 0 ≤ v := by rw [hv]; exact hvb.1
        have hv1 : v ≤ 999999 := by rw [hv]; exact Int.le_trans hvb.2 (HB.out F).2
        have z1 : wr.frozen? ⟨w.heap.size + 1, k, none⟩ = false := hW.out.ftxt k hk'
        have z2 : wr.frozen? ⟨w.heap.size, F, none⟩ = false := hW.out.fnum F
        have HV : Hid (v = Tx.dv (nums y m d h n s u F) (Tx.cn (k + 1) F)) := hv
        have HF : Hid (F = Tx.fl (k + 1)) := hF
        have HK : Hid (Tx.frm k = 48) := hf
        rw [hf] at hform
        clear hvb hv hF hf hF7 hk
        go_wp2_with fail
        go_region
        go_wp2
        have hd := (hW.out.dig hk' HK.out v (by rw [← HF.out]; exact HV.out)).drew
        rw [← HF.out] at hd
        exact ⟨⟨k, by omega, by rw [HF.out, Tx.fl_dig k hk' HK.out], rfl, hd⟩, by simp [intOf]⟩
      · have HF : Hid (F = Tx.fl (k + 1)) := hF
        have HK : Hid (Tx.frm k ≠ 48) := hf
        have hb : ((Tx.frm k : Int) != 48) = true := by rw [bne_iff_ne]; omega
        clear hF hf hk
        go_wp2_with fail
        exact ⟨⟨k, by omega, by rw [HF.out, Tx.fl_sep k hk' HK.out]; go_num, rfl, hW.out.sep hk' HK.out⟩, by simp [intOf]⟩
end Go.Proofs.Ytifaneckfnjgiab
