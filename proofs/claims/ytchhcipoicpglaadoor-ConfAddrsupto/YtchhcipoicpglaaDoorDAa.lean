/- What Addr of package conf, and cut and Addr of the reference, return. -/
import Derived.Test.YtchhcipoicpglaaDoorDAn
import Derived.Test.YtchhcipoicpglaaDoorCWa
import Derived.Test.YtchhcipoicpglaaDoorShelf
import Derived.Deep.RegionHeld3
import Derived.Laws.Bits128
import Derived.Laws.BitsAllLaws
namespace Go.Proofs.YtchhcipoicpglaaDoor
open Go.RowKit
/-- what a text says as an address: the number, the error -/
def axV (ps : List (List UInt8)) : Int := if adB ps then adV ps else 0
def axE (ps : List (List UInt8)) : Int := if adB ps then 0 else 52
theorem adB_len {ps : List (List UInt8)} (h : ps.length ≠ 4) : adB ps = false := by unfold adB; rw [decide_eq_false h]; rfl
theorem adB_bad {ps : List (List UInt8)} (k : Nat) (h : k < ps.length) (hp : okP (ps.getD k []) = false) : adB ps = false := by
  rw [List.getD_eq_getElem?_getD, List.getElem?_eq_getElem h] at hp
  have hp : okP ps[k] = false := hp
  unfold adB
  rw [Bool.and_eq_false_iff]
  right
  rw [List.all_eq_false]
  exact ⟨ps[k], List.getElem_mem h, by rw [hp]; decide⟩
theorem ax_no {ps : List (List UInt8)} (h : adB ps = false) : axV ps = 0 ∧ axE ps = 52 := by unfold axV axE; rw [h]; exact ⟨rfl, rfl⟩
theorem ax_yes {ps : List (List UInt8)} (h : adB ps = true) : axV ps = adV ps ∧ axE ps = 0 := by unfold axV axE; rw [h]; exact ⟨rfl, rfl⟩
theorem adV_bd (ps : List (List UInt8)) (h : ps.all okP = true) : 0 ≤ adV ps ∧ adV ps < (256 : Int) ^ ps.length := by
  suffices H : ∀ n (ps : List (List UInt8)), ps.length = n → ps.all okP = true → 0 ≤ adV ps ∧ adV ps < (256 : Int) ^ n by
    exact H _ ps rfl h
  intro n
  induction n with
  | zero => intro ps hl _; rw [List.length_eq_zero_iff.1 hl]; simp [adV]
  | succ n ih =>
    intro ps hl h
    have hne : ps ≠ [] := fun e => by rw [e] at hl; cases hl
    rw [← List.dropLast_concat_getLast hne] at h ⊢
    rw [List.all_append, Bool.and_eq_true] at h
    have h1 := ih ps.dropLast (by rw [List.length_dropLast]; omega) h.1
    have h2 := okP_t (p := ps.getLast hne) (by simpa using h.2)
    rw [adV_snoc, Int.pow_succ]
    omega
theorem pow256 {k : Nat} (h : k ≤ 3) : (256 : Int) ^ k ≤ 16777216 := by
  have h2 : k = 0 ∨ k = 1 ∨ k = 2 ∨ k = 3 := by omega
  rcases h2 with rfl | rfl | rfl | rfl <;> decide
theorem ofInt_u32 (a : Nat) (ha : a < 4294967296) : (BitVec.ofInt 32 (a : Int)).toNat = a := by
  rw [BitVec.ofInt_natCast, BitVec.toNat_ofNat]; exact Nat.mod_eq_of_lt (by omega)
theorem u32_or_add (a n : Int) (h0 : 0 ≤ a) (h1 : a < 16777216) (n0 : 0 ≤ n) (n1 : n ≤ 255) : bits .or .u32 (a * 256) n = a * 256 + n := by
  obtain ⟨x, rfl⟩ := Int.eq_ofNat_of_zero_le h0
  obtain ⟨y, rfl⟩ := Int.eq_ofNat_of_zero_le n0
  have e : (x : Int) * 256 = ((x * 256 : Nat) : Int) := by omega
  rw [e]
  have ho : x * 256 ||| y = x * 256 + y := by
    have h := Nat.shiftLeft_add_eq_or_of_lt (show y < 2 ^ 8 by omega) x
    rw [Nat.shiftLeft_eq] at h
    exact h.symm
  show IntKind.u32.wrap ((BitVec.ofInt 32 ((x * 256 : Nat) : Int) ||| BitVec.ofInt 32 (y : Int)).toNat : Int) = _
  rw [BitVec.toNat_or, ofInt_u32 (x * 256) (by omega), ofInt_u32 y (by omega), ho, IntKind.wrap_u32]
  omega
theorem u32_and_255 (a : Int) (h0 : 0 ≤ a) (h1 : a < 4294967296) : bits .and .u32 a 255 = a % 256 := by
  obtain ⟨x, rfl⟩ := Int.eq_ofNat_of_zero_le h0
  show IntKind.u32.wrap ((BitVec.ofInt 32 (x : Int) &&& BitVec.ofInt 32 ((255 : Nat) : Int)).toNat : Int) = _
  rw [BitVec.toNat_and, ofInt_u32 x (by omega), ofInt_u32 255 (by omega), show (255 : Nat) = 2 ^ 8 - 1 from rfl, Nat.and_two_pow_sub_one_eq_mod, IntKind.wrap_u32]
  omega
theorem take_ps (ps : List (List UInt8)) (k : Nat) (h : k < ps.length) : ps.take (k + 1) = ps.take k ++ [ps.getD k []] := by
  rw [List.take_succ_eq_append_getElem h, List.getD_eq_getElem?_getD, List.getElem?_eq_getElem h]; rfl
theorem okP_of {p : ByteArray} {V : Int} {B : Bool} (h1 : V = nmV p.data.toList) (h2 : B = nmB p.data.toList) : okP p.data.toList = (B && decide (V ≤ 255)) ∧ (B = true → V = vl p.data.toList) := by
  cases hB : nmB p.data.toList with
  | false => rw [hB] at h2; unfold okP; rw [hB, h2]; exact ⟨rfl, fun h => by cases h⟩
  | true =>
    have hv : V = vl p.data.toList := by rw [h1]; unfold nmV; rw [hB]; rfl
    rw [hB] at h2
    unfold okP
    rw [hB, h2, hv]
    exact ⟨rfl, fun _ => rfl⟩
set_option maxHeartbeats 1000000 in
theorem addr_any (s : ByteArray) (w : World) (m : Int) (hs : s.size ≤ 1048576) (hm : w.cell? ⟨0, 0, none⟩ = some (.int .i64 m)) :
    Calls Tryd.prog 4 #[.string s] w fun e w' => e = .returned (.tuple #[.int .u32 (axV (ct 46 [] s.data.toList)), .int .i64 (axE (ct 46 [] s.data.toList))]) ∧ Below w.heap.size w w' := by
  obtain ⟨K, hK⟩ : ∃ K, K = min 5 (s.size + 1) - 1 := ⟨_, rfl⟩
  obtain ⟨C, hC⟩ : ∃ C, C = min 5 (s.size + 1) := ⟨_, rfl⟩
  obtain ⟨P, hP⟩ : ∃ P, P = Lib.splitB ⟨#[46]⟩ 0 K s := ⟨_, rfl⟩
  have HS : Hid (∀ v : World, v.cell? ⟨0, 0, none⟩ = some (.int .i64 m) → Calls Tryd.prog 8 #[.string s, .string ⟨#[46]⟩, .int .i64 5] v fun e v' => e = .returned (.slice (some ⟨v.heap.size, 0, none⟩) P.length C) ∧ v' = v.alloc (.cells (Lib.cellsOf P C) 9)) := fun v hv => by
    rw [hP, hK, hC]
    exact Tryd.strings_SplitN s ⟨#[46]⟩ 5 m v (by omega) hv (by decide) (by decide) (by decide)
  have hD : P.map (·.data.toList) = Lib.splitK [46] 0 K s.data.toList := by rw [hP]; exact Lib.splitB_data ⟨#[46]⟩ 0 K s
  have hcut := splitN_ct 46 s.data.toList K (by rw [hK]; simp)
  rw [← hD] at hcut
  rw [List.length_map] at hcut
  have hle : P.length ≤ C := by
    have := Lib.splitB_length_le ⟨#[46]⟩ 0 K s
    rw [← hP] at this
    omega
  obtain ⟨ps, hps⟩ : ∃ ps, ps = ct 46 [] s.data.toList := ⟨_, rfl⟩
  rw [← hps] at hcut ⊢
  have HM : Hid (w.cell? ⟨0, 0, none⟩ = some (.int .i64 m)) := hm
  clear hP hK hD hm hps
  by_cases h4 : P.length = 4
  · have hmap := hcut.2 (hcut.1.1 h4)
    have hl4 := hcut.1.1 h4
    clear hcut
    obtain ⟨PL, hPL⟩ : ∃ n : Nat, n = P.length := ⟨_, rfl⟩
    have hPL4 : ((PL : Int) != 4) = false := by rw [hPL, h4]; rfl
    have hPLi : (PL : Int) = 4 := by omega
    rw [← hPL] at HS
    have HC : Hid (∀ k (hk : k < 4), ∃ p : ByteArray, (w.alloc (.cells (Lib.cellsOf P C) 9)).cell? ⟨w.heap.size, k, none⟩ = some (.string p) ∧ p.data.toList = ps.getD k []) := fun k hk => by
      refine ⟨P[k]'(by omega), ?_, ?_⟩
      · rw [World.cell?_alloc_new]
        unfold Lib.cellsOf
        rw [List.getElem?_toArray, List.getElem?_append_left (by simp; omega), List.getElem?_map, List.getElem?_eq_getElem (by omega)]
        rfl
      · have : (P.map (·.data.toList))[k]? = ps[k]? := by rw [hmap]
        rw [List.getElem?_map, List.getElem?_eq_getElem (by omega : k < P.length)] at this
        rw [List.getD_eq_getElem?_getD, ← this]; rfl
    have HL : Hid (ps.length = 4) := hl4
    have hcap : (PL : Int) ≤ C := by omega
    clear hmap hPL h4 hle hC hl4
    go_enter Tryd.func4, Tryd.ntmps4
    go_wp2_with (go_at_call 8; refine (HS.out _ HM.out).mono ?_; rintro e w1 ⟨rfl, hw1⟩; rw [hw1]; clear hw1)
    obtain ⟨W, hW⟩ : ∃ W, W = w.alloc (.cells (Lib.cellsOf P C) 9) := ⟨_, rfl⟩
    rw [← hW] at HC ⊢
    have HB : Hid (Below w.heap.size w W) := by rw [hW]; exact (Below.refl _ _).alloc (Nat.le_refl _) _
    clear hW
    go_loop [5, 17] (fun a i => ∃ k : Nat, k ≤ 4 ∧ i = .int .i64 (k : Int) ∧ a = .int .u32 (adV (ps.take k)) ∧ Hid ((ps.take k).all okP = true)) (fun _ i => (4 - intOf i).toNat)
    case atStart => exact ⟨0, by omega, rfl, rfl, rfl⟩
    case round =>
      obtain ⟨k, hk, rfl, rfl, hA⟩ := hrel
      by_cases hlt : k < 4
      · have hlti : (k : Int) < 4 := by omega
        obtain ⟨p, hc, hpd⟩ := HC.out k hlt
        have HPD : Hid (p.data.toList = ps.getD k []) := hpd
        have hbd := adV_bd _ hA.out
        have hpw : (256 : Int) ^ (ps.take k).length ≤ 16777216 := pow256 (by rw [List.length_take]; omega)
        have a0 : 0 ≤ adV (ps.take k) := hbd.1
        have a1 : adV (ps.take k) < 16777216 := by omega
        clear hbd hpw hpd
        obtain ⟨V, hV⟩ : ∃ V, V = nmV p.data.toList := ⟨_, rfl⟩
        obtain ⟨B, hB⟩ : ∃ B, B = nmB p.data.toList := ⟨_, rfl⟩
        have HNm : Hid (∀ v, Calls Tryd.prog 9 #[.string p] v fun e v' => e = .returned (.tuple #[.int .i64 V, .bool B]) ∧ v' = v) := fun v => by rw [hV, hB]; exact number_any p v
        have HVB : Hid (V = nmV p.data.toList ∧ B = nmB p.data.toList) := ⟨hV, hB⟩
        clear hV hB
        by_cases hok : B = true ∧ V ≤ 255
        · obtain ⟨rfl, hV1⟩ := hok
          have hV0 : 0 ≤ V := by
            have h1 := HVB.out.1
            have h2 := HVB.out.2
            unfold nmV at h1
            rw [← h2] at h1
            rw [h1]
            exact (nm_bd h2.symm).1
          go_wp2_with (go_at_call 9; refine (HNm.out _).mono ?_; rintro e w2 ⟨rfl, hw2⟩; rw [hw2]; clear hw2)
          have HO := okP_of HVB.out.1 HVB.out.2
          rw [HPD.out] at HO
          refine ⟨⟨k + 1, by omega, by go_num, ?_, ?_⟩, by simp [intOf]; omega⟩
          · rw [u32_or_add _ _ a0 a1 hV0 hV1, take_ps ps k (by have := HL.out; omega), adV_snoc, ← HO.2 rfl]
          · show _ = _
            rw [take_ps ps k (by have := HL.out; omega), List.all_append, hA.out]
            show (true && (okP (ps.getD k []) && true)) = true
            rw [HO.1, decide_eq_true hV1]; rfl
        · have HN : Hid (adB ps = false) := adB_bad k (by have := HL.out; omega) (by
            have HO := okP_of HVB.out.1 HVB.out.2
            rw [HPD.out] at HO
            rw [HO.1]
            cases B
            · rfl
            · have : ¬ V ≤ 255 := fun h => hok ⟨rfl, h⟩
              simp [this])
          have hc2 : B = false ∨ (B = true ∧ 255 < V) := by
            cases B
            · exact .inl rfl
            · right; exact ⟨rfl, by have : ¬ V ≤ 255 := fun h => hok ⟨rfl, h⟩; omega⟩
          clear hok
          rcases hc2 with rfl | ⟨rfl, hV⟩
          all_goals
            go_wp2_with (go_at_call 9; refine (HNm.out _).mono ?_; rintro e w2 ⟨rfl, hw2⟩; rw [hw2]; clear hw2)
            go_ret2
            exact ⟨by rw [(ax_no HN.out).1, (ax_no HN.out).2]; rfl, HB.out⟩
      · have hk4 : k = 4 := by omega
        subst hk4
        have ht : ps.take 4 = ps := List.take_of_length_le (by have := HL.out; omega)
        have HN : Hid (adB ps = true) := by
          show _ = _
          have h := hA.out
          rw [ht] at h
          unfold adB
          rw [h, decide_eq_true HL.out]; rfl
        rw [ht]
        clear ht
        go_wp2
        go_ret2
        exact ⟨by rw [(ax_yes HN.out).1, (ax_yes HN.out).2]; rfl, HB.out⟩
  · have HN : Hid (adB ps = false) := adB_len (fun h => h4 (hcut.1.2 h))
    obtain ⟨PL, hPL⟩ : ∃ n : Nat, n = P.length := ⟨_, rfl⟩
    have hPL4 : ((PL : Int) != 4) = true := by rw [bne_iff_ne]; omega
    rw [← hPL] at HS
    clear hPL h4 hcut hC hle
    go_enter Tryd.func4, Tryd.ntmps4
    go_wp2_with (go_at_call 8; refine (HS.out _ HM.out).mono ?_; rintro e w1 ⟨rfl, hw1⟩; rw [hw1]; clear hw1)
    go_ret2
    exact ⟨by rw [(ax_no HN.out).1, (ax_no HN.out).2]; rfl, (Below.refl _ _).alloc (Nat.le_refl _) _⟩
/-- how far cut has come -/
structure Cu (b : UInt8) (s : ByteArray) (w w' : World) (v : Value) (f k : Nat) (O : List (List UInt8)) : Prop where
  hf : f ≤ k
  hk : k ≤ s.size
  bl : Below w.heap.size w w'
  ow : OwT w' w.heap.size v O
  ln : O.length ≤ f
  ct : ct b [] s.data.toList = O ++ ct b ((s.data.toList.drop f).take (k - f)) (s.data.toList.drop k)
theorem take_cur (s : ByteArray) (f k : Nat) (hf : f ≤ k) (h : k < s.size) : (s.data.toList.drop f).take (k + 1 - f) = (s.data.toList.drop f).take (k - f) ++ [s[k]] := by
  rw [show k + 1 - f = (k - f) + 1 by omega, List.take_succ_eq_append_getElem (by rw [List.length_drop]; simp; omega), List.getElem_drop]
  congr 2
  show s.data.toList[f + (k - f)]'_ = s.data.toList[k]'_
  congr 1
  omega
theorem extract_end (s : ByteArray) (f : Nat) : s.extract f s.size = tx (s.data.toList.drop f) := by
  rw [extract_tx, List.take_of_length_le (by rw [List.length_drop]; simp)]
set_option maxHeartbeats 1000000 in
theorem cut_any (s : ByteArray) (b : UInt8) (w : World) (hs : s.size ≤ 1048576) :
    Calls Tryd.prog 10 #[.string s, .int .u8 (b.toNat : Int)] w fun e w' => ∃ v, e = .returned v ∧ Below w.heap.size w w' ∧ OwT w' w.heap.size v (ct b [] s.data.toList) := by
  have hsi : (s.size : Int) ≤ 1048576 := by omega
  go_enter Tryd.func10, Tryd.ntmps10
  go_wp2
  go_loopw [5, 6, 7] (fun o f i wr => ∃ (v : Value) (fn k : Nat) (O : List (List UInt8)), v = o ∧ f = .int .i64 (fn : Int) ∧ i = .int .i64 (k : Int) ∧ Hid (Cu b s w wr v fn k O)) (fun _ _ i _ => s.size - (intOf i).toNat)
  case atStart => exact ⟨_, 0, 0, [], rfl, rfl, rfl, Nat.le_refl _, Nat.zero_le _, (Below.refl _ _).alloc (Nat.le_refl _) _, OwT.fresh _ _ (Nat.le_refl _), Nat.le_refl _, by simp⟩
  case round =>
    obtain ⟨v, f, k, O, rfl, rfl, rfl, H⟩ := hrel
    have hk := H.out.hk
    have hf := H.out.hf
    have hfi : (f : Int) ≤ k := by omega
    have hki : (k : Int) ≤ s.size := by omega
    have HO : Hid (O.length ≤ 1048576) := by have := H.out.ln; show _ ≤ _; omega
    by_cases hlt : k < s.size
    · have hlti : (k : Int) < s.size := by omega
      have HD := drop_at s k hlt
      by_cases hb : s[k].toNat = b.toNat
      · have hbb : ((s[k].toNat : Int) == (b.toNat : Int)) = true := by rw [hb]; simp
        have HC : Hid (ct b [] s.data.toList = (O ++ [(s.data.toList.drop f).take (k - f)]) ++ ct b [] (s.data.toList.drop (k + 1))) := by
          show _ = _
          rw [H.out.ct, HD, ct_hit hb]; simp
        clear HD hb
        go_wp2_with (at_builtin; refine wpList_appT (by rfl) _ _ 28 (by rfl) Tryd.underlying28 w.heap.size v O (by rfl) wr.heap.size ((s.data.toList.drop f).take (k - f)) (by rfl) (by have := HO.out; omega) (by have := H.out.bl.size; simp; omega) (H.out.ow.alloc _) (by rw [World.cell?_alloc_new, ← extract_tx]; rfl) ?_; intro v2 w3 ho hg)
        have HN : Hid (Cu b s w w3 v2 (k + 1) (k + 1) (O ++ [(s.data.toList.drop f).take (k - f)])) := ⟨Nat.le_refl _, hlt, (H.out.bl.alloc H.out.bl.size _).grown hg (by have := H.out.bl.size; simp; omega) (fun j e => (H.out.ow.lt j e).1), ho, by have := H.out.ln; simp; omega, by rw [HC.out, Nat.sub_self, List.take_zero]⟩
        clear ho hg
        go_wp2
        exact ⟨⟨v2, k + 1, k + 1, _, rfl, by go_num, by go_num, HN⟩, by simp [intOf]; omega⟩
      · have hbb : ((s[k].toNat : Int) == (b.toNat : Int)) = false := by rw [beq_eq_false_iff_ne]; omega
        have HN : Hid (Cu b s w wr v f (k + 1) O) := ⟨by omega, hlt, H.out.bl, H.out.ow, H.out.ln, by rw [H.out.ct, HD, ct_miss hb, take_cur s f k hf hlt]⟩
        clear HD hb
        go_wp2
        exact ⟨⟨v, f, k + 1, O, rfl, rfl, by go_num, HN⟩, by simp [intOf]; omega⟩
    · have hke : k = s.size := by omega
      have HC : Hid (ct b [] s.data.toList = O ++ [s.data.toList.drop f]) := by
        show _ = _
        rw [H.out.ct, drop_none s k (by omega), ct_nil, List.take_of_length_le (by rw [List.length_drop]; simp; omega)]
      go_wp2_with (at_builtin; refine wpList_appT (by rfl) _ _ 28 (by rfl) Tryd.underlying28 w.heap.size v O (by rfl) wr.heap.size (s.data.toList.drop f) (by rfl) (by have := HO.out; omega) (by have := H.out.bl.size; simp; omega) (H.out.ow.alloc _) (by rw [World.cell?_alloc_new, ← extract_end]; rfl) ?_; intro v2 w3 ho hg)
      have HN : Hid (Below w.heap.size w w3 ∧ OwT w3 w.heap.size v2 (O ++ [s.data.toList.drop f])) := ⟨(H.out.bl.alloc H.out.bl.size _).grown hg (by have := H.out.bl.size; simp; omega) (fun j e => (H.out.ow.lt j e).1), ho⟩
      clear ho hg
      go_wp2
      go_ret
      exact ⟨v2, rfl, HN.out.1, by rw [HC.out]; exact HN.out.2⟩
theorem rs_cell {w : World} {v : Value} {ts : List (List UInt8)} (h : Rt w v ts) : ∃ ao cap, v = .slice ao ts.length cap ∧ ts.length ≤ cap ∧ ∀ k, k < ts.length → ∃ g o, ao = some ⟨g, o, none⟩ ∧ w.cell? ⟨g, o + k, none⟩ = some (.string (tx (ts.getD k []))) := by
  obtain ⟨ao, cap, h1, h2, h3⟩ := h
  refine ⟨ao, cap, h1, h2, fun k hk => ?_⟩
  obtain ⟨g, o, g1, _, g3⟩ := h3 k hk
  refine ⟨g, o, g1, ?_⟩
  rw [g3, List.getD_eq_getElem?_getD, List.getElem?_eq_getElem hk]; rfl
set_option maxHeartbeats 1000000 in
theorem raddr_any (s : ByteArray) (w : World) (hs : s.size ≤ 1048576) :
    Calls Tryd.prog 5 #[.string s] w fun e w' => e = .returned (.tuple #[.int .u32 (axV (ct 46 [] s.data.toList)), .int .i64 (axE (ct 46 [] s.data.toList))]) ∧ Below w.heap.size w w' := by
  obtain ⟨ps, hps⟩ : ∃ ps, ps = ct 46 [] s.data.toList := ⟨_, rfl⟩
  have HCt : Hid (∀ v, Calls Tryd.prog 10 #[.string s, .int .u8 46] v fun e v' => ∃ u, e = .returned u ∧ Below v.heap.size v v' ∧ OwT v' v.heap.size u ps) := fun v => by rw [hps]; exact cut_any s 46 v hs
  rw [← hps]
  clear hps
  go_enter Tryd.func5, Tryd.ntmps5
  go_wp2_with fail
  refine (HCt.out _).mono ?_
  rintro e W ⟨u, rfl, hb, ho⟩
  obtain ⟨ao, cap, rfl, hcap, hcell⟩ := rs_cell ho.rt
  obtain ⟨PL, hPL⟩ : ∃ n : Nat, n = ps.length := ⟨_, rfl⟩
  rw [← hPL]
  have HB : Hid (Below w.heap.size w W ∧ PL = ps.length ∧ ∀ k, k < ps.length → ∃ g o, ao = some ⟨g, o, none⟩ ∧ W.cell? ⟨g, o + k, none⟩ = some (.string (tx (ps.getD k [])))) := ⟨hb, hPL, hcell⟩
  by_cases h4 : PL = 4
  · have hPL4 : ((PL : Int) != 4) = false := by rw [h4]; rfl
    have hPLi : (PL : Int) = 4 := by omega
    have HL : Hid (ps.length = 4) := by rw [← hPL]; exact h4
    have hcp : (PL : Int) ≤ cap := by omega
    clear hb ho hcell hPL h4 hcap
    go_wp2
    go_loop [5, 6] (fun a i => ∃ k : Nat, k ≤ 4 ∧ i = .int .i64 (k : Int) ∧ a = .int .u32 (adV (ps.take k)) ∧ Hid ((ps.take k).all okP = true)) (fun _ i => (4 - intOf i).toNat)
    case atStart => exact ⟨0, by omega, rfl, rfl, rfl⟩
    case round =>
      obtain ⟨k, hk, rfl, rfl, hA⟩ := hrel
      by_cases hlt : k < 4
      · have hlti : (k : Int) < 4 := by omega
        obtain ⟨g, o, rfl, hc⟩ := HB.out.2.2 k (by have := HL.out; omega)
        have hbd := adV_bd _ hA.out
        have hpw : (256 : Int) ^ (ps.take k).length ≤ 16777216 := pow256 (by rw [List.length_take]; omega)
        have a0 : 0 ≤ adV (ps.take k) := hbd.1
        have a1 : adV (ps.take k) < 16777216 := by omega
        clear hbd hpw
        obtain ⟨V, hV⟩ : ∃ V, V = nmR (ps.getD k []) := ⟨_, rfl⟩
        have HNm : Hid (∀ v, Calls Tryd.prog 11 #[.string (tx (ps.getD k []))] v fun e v' => e = .returned (.int .i64 V) ∧ v' = v) := fun v => by
          have := rnumber_any (tx (ps.getD k [])) v
          rw [tx_data, ← hV] at this
          exact this
        have HVR : Hid (V = nmR (ps.getD k [])) := hV
        obtain ⟨X, hX⟩ : ∃ X, X = tx (ps.getD k []) := ⟨_, rfl⟩
        rw [← hX] at HNm hc
        clear hV hX
        by_cases hok : 0 ≤ V ∧ V ≤ 255
        · obtain ⟨hV0, hV1⟩ := hok
          have HO : Hid (okP (ps.getD k []) = true ∧ V = vl (ps.getD k [])) := by
            have h1 := HVR.out
            unfold nmR at h1
            cases hB : nmB (ps.getD k []) with
            | false => rw [hB] at h1; simp at h1; omega
            | true =>
              rw [hB] at h1
              have h2 : V = vl (ps.getD k []) := h1
              refine ⟨?_, h2⟩
              unfold okP
              rw [hB, ← h2, decide_eq_true hV1]; rfl
          go_wp2_with (go_at_call 11; refine (HNm.out _).mono ?_; rintro e w2 ⟨rfl, hw2⟩; rw [hw2]; clear hw2)
          refine ⟨⟨k + 1, by omega, by go_num, ?_, ?_⟩, by simp [intOf]; omega⟩
          · rw [take_ps ps k (by have := HL.out; omega), adV_snoc, ← HO.out.2]
          · show _ = _
            rw [take_ps ps k (by have := HL.out; omega), List.all_append, hA.out]
            show (true && (okP (ps.getD k []) && true)) = true
            rw [HO.out.1]; rfl
        · have HN : Hid (adB ps = false) := adB_bad k (by have := HL.out; omega) (by
            have h1 := HVR.out
            unfold nmR at h1
            unfold okP
            cases hB : nmB (ps.getD k []) with
            | false => rfl
            | true =>
              rw [hB] at h1
              have h2 : V = vl (ps.getD k []) := h1
              have h3 := (nm_bd hB).1
              rw [← h2] at h3 ⊢
              rw [decide_eq_false (fun h => hok ⟨h3, h⟩)]; rfl)
          have hc2 : V < 0 ∨ (0 ≤ V ∧ 255 < V) := by omega
          clear hok
          rcases hc2 with hV | ⟨hV2, hV⟩
          all_goals
            go_wp2_with (go_at_call 11; refine (HNm.out _).mono ?_; rintro e w2 ⟨rfl, hw2⟩; rw [hw2]; clear hw2)
            go_ret2
            exact ⟨by rw [(ax_no HN.out).1, (ax_no HN.out).2]; rfl, HB.out.1⟩
      · have hk4 : k = 4 := by omega
        subst hk4
        have ht : ps.take 4 = ps := List.take_of_length_le (by have := HL.out; omega)
        have HN : Hid (adB ps = true) := by
          show _ = _
          have h := hA.out
          rw [ht] at h
          unfold adB
          rw [h, decide_eq_true HL.out]; rfl
        rw [ht]
        clear ht
        go_wp2
        go_ret2
        exact ⟨by rw [(ax_yes HN.out).1, (ax_yes HN.out).2]; rfl, HB.out.1⟩
  · have HN : Hid (adB ps = false) := adB_len (fun h => h4 (by rw [hPL]; exact h))
    have hPL4 : ((PL : Int) != 4) = true := by rw [bne_iff_ne]; omega
    clear hb ho hcell hPL h4 hcap
    go_wp2
    go_ret2
    exact ⟨by rw [(ax_no HN.out).1, (ax_no HN.out).2]; rfl, HB.out.1⟩
end Go.Proofs.YtchhcipoicpglaaDoor
