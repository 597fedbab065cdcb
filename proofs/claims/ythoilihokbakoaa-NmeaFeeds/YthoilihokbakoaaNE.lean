/- What Feed of a line does. -/
import Derived.Test.YthoilihokbakoaaND
import Derived.Test.YthoilihokbakoaaNT
import Derived.Deep.RegionHeldLaw
import Derived.Laws.BytesArg
namespace Go.Proofs.Ythoilihokbakoaa
open Go Go.RowKit
theorem is_app {ops : Array Oper} {o : Oper} {a : Act} {w : World} {K : Act → World → Prop} {Q : Exit → Act → World → Prop} {E : Prop} (s x : Operand) (t : Array TypeId) (_ho : o.op = .call { callee := .builtin .append, args := #[s, x], argTypes := t }) (h : if Region.wanted o (yielded ops a.tmps) = true then Oper.wp Try.prog o a w K Q else E) : if Region.wanted o (yielded ops a.tmps) = true then Oper.wp Try.prog o a w K Q else E := h
def FrF (q : Nat) (b v : Value) (k : Int) (a : Act) : Prop := ∃ f : Nat → Value, a = { tmps := #[.pointer (some ⟨q, 0, none⟩), b, undef, undef, .slice none 0 0, v, .int .i64 k, f 7, f 8, f 9, f 10, f 11, f 12, f 13, f 14, f 15, f 16, f 17, f 18, f 19, f 20, f 21, f 22, f 23, f 24, f 25, f 26, f 27, f 28, f 29, f 30, f 31, f 32, f 33, f 34, f 35, f 36, f 37, f 38, f 39, f 40, f 41, f 42, f 43, f 44, f 45, f 46, f 47, f 48, f 49, f 50, f 51, f 52, f 53, f 54, f 55, f 56, f 57, f 58, f 59, f 60, f 61, f 62, f 63, f 64, f 65, f 66, f 67, f 68, f 69, f 70, f 71, f 72, f 73, f 74, f 75, f 76, f 77, f 78, f 79, f 80, f 81, f 82, f 83, f 84, f 85, f 86, f 87, f 88, f 89, f 90, f 91, f 92, f 93, f 94, f 95, f 96, f 97, f 98, f 99, f 100, f 101, f 102, f 103], defers := [] }
theorem FrF.mk {q : Nat} {b v : Value} {k : Int} {u7 u8 u9 u10 u11 u12 u13 u14 u15 u16 u17 u18 u19 u20 u21 u22 u23 u24 u25 u26 u27 u28 u29 u30 u31 u32 u33 u34 u35 u36 u37 u38 u39 u40 u41 u42 u43 u44 u45 u46 u47 u48 u49 u50 u51 u52 u53 u54 u55 u56 u57 u58 u59 u60 u61 u62 u63 u64 u65 u66 u67 u68 u69 u70 u71 u72 u73 u74 u75 u76 u77 u78 u79 u80 u81 u82 u83 u84 u85 u86 u87 u88 u89 u90 u91 u92 u93 u94 u95 u96 u97 u98 u99 u100 u101 u102 u103 : Value} : FrF q b v k { tmps := #[.pointer (some ⟨q, 0, none⟩), b, undef, undef, .slice none 0 0, v, .int .i64 k, u7, u8, u9, u10, u11, u12, u13, u14, u15, u16, u17, u18, u19, u20, u21, u22, u23, u24, u25, u26, u27, u28, u29, u30, u31, u32, u33, u34, u35, u36, u37, u38, u39, u40, u41, u42, u43, u44, u45, u46, u47, u48, u49, u50, u51, u52, u53, u54, u55, u56, u57, u58, u59, u60, u61, u62, u63, u64, u65, u66, u67, u68, u69, u70, u71, u72, u73, u74, u75, u76, u77, u78, u79, u80, u81, u82, u83, u84, u85, u86, u87, u88, u89, u90, u91, u92, u93, u94, u95, u96, u97, u98, u99, u100, u101, u102, u103], defers := [] } :=
  ⟨fun i => [u7, u8, u9, u10, u11, u12, u13, u14, u15, u16, u17, u18, u19, u20, u21, u22, u23, u24, u25, u26, u27, u28, u29, u30, u31, u32, u33, u34, u35, u36, u37, u38, u39, u40, u41, u42, u43, u44, u45, u46, u47, u48, u49, u50, u51, u52, u53, u54, u55, u56, u57, u58, u59, u60, u61, u62, u63, u64, u65, u66, u67, u68, u69, u70, u71, u72, u73, u74, u75, u76, u77, u78, u79, u80, u81, u82, u83, u84, u85, u86, u87, u88, u89, u90, u91, u92, u93, u94, u95, u96, u97, u98, u99, u100, u101, u102, u103].getD (i - 7) undef, rfl⟩
/-- what holds at every label -/
structure FJ (b : List UInt8) (w w' : World) (q n0 : Nat) (wi : Bool) (cur : List UInt8) (n : Nat) (v : Value) (O : List (List UInt8)) (k : Nat) : Prop where
  fr : Fq w w' q
  li : Li w' q wi cur n
  ow : OwT w' w.heap.size v O
  hk : k ≤ b.length
  ln : O.length ≤ k
  lo : n ≤ n0 + k
/-- the labels: 0 within, 1 outside, 2 begin, 3 done, 4 lose -/
def FdL (s0 : LS) (b : List UInt8) (n0 : Nat) (l : Nat) (cur : List UInt8) (n : Nat) (O : List (List UInt8)) (k : Nat) : Prop :=
  (l = 0 ∧ fdL s0 (b.take k) = ⟨some cur, O, n⟩) ∨ (l = 1 ∧ fdL s0 (b.take k) = ⟨none, O, n⟩) ∨ (l = 2 ∧ fdL s0 (b.take k) = ⟨some [], O, n⟩) ∨ (l = 3 ∧ O.length + 1 ≤ k ∧ fdL s0 (b.take k) = ⟨none, O ++ [chop cur], n⟩) ∨ (l = 4 ∧ n + 1 ≤ n0 + k ∧ fdL s0 (b.take k) = ⟨none, O, n + 1⟩)
def FdJ (s0 : LS) (b : List UInt8) (bv : Value) (w : World) (q n0 : Nat) (l : Nat) (a : Act) (w' : World) : Prop := ∃ v, ∃ k : Nat, ∃ wi cur n O, FrF q bv v k a ∧ Hid (FJ b w w' q n0 wi cur n v O k ∧ FdL s0 b n0 l cur n O k)
theorem FdL.at0 {s0 : LS} {b : List UInt8} {n0 : Nat} {cur : List UInt8} {n : Nat} {O : List (List UInt8)} {k : Nat} (h : FdL s0 b n0 0 cur n O k) : fdL s0 (b.take k) = ⟨some cur, O, n⟩ := by
  rcases h with ⟨_, h⟩ | ⟨h, _⟩ | ⟨h, _⟩ | ⟨h, _⟩ | ⟨h, _⟩
  · exact h
  all_goals cases h
theorem FdL.at1 {s0 : LS} {b : List UInt8} {n0 : Nat} {cur : List UInt8} {n : Nat} {O : List (List UInt8)} {k : Nat} (h : FdL s0 b n0 1 cur n O k) : fdL s0 (b.take k) = ⟨none, O, n⟩ := by
  rcases h with ⟨h, _⟩ | ⟨_, h⟩ | ⟨h, _⟩ | ⟨h, _⟩ | ⟨h, _⟩
  · cases h
  · exact h
  all_goals cases h
theorem FdL.at2 {s0 : LS} {b : List UInt8} {n0 : Nat} {cur : List UInt8} {n : Nat} {O : List (List UInt8)} {k : Nat} (h : FdL s0 b n0 2 cur n O k) : fdL s0 (b.take k) = ⟨some [], O, n⟩ := by
  rcases h with ⟨h, _⟩ | ⟨h, _⟩ | ⟨_, h⟩ | ⟨h, _⟩ | ⟨h, _⟩
  · cases h
  · cases h
  · exact h
  all_goals cases h
theorem FdL.in0 {s0 : LS} {b : List UInt8} {n0 : Nat} {cur : List UInt8} {n : Nat} {O : List (List UInt8)} {k : Nat} (h : fdL s0 (b.take k) = ⟨some cur, O, n⟩) : FdL s0 b n0 0 cur n O k := .inl ⟨rfl, h⟩
theorem FdL.in1 {s0 : LS} {b : List UInt8} {n0 : Nat} {cur : List UInt8} {n : Nat} {O : List (List UInt8)} {k : Nat} (h : fdL s0 (b.take k) = ⟨none, O, n⟩) : FdL s0 b n0 1 cur n O k := .inr (.inl ⟨rfl, h⟩)
theorem FdL.in2 {s0 : LS} {b : List UInt8} {n0 : Nat} {cur : List UInt8} {n : Nat} {O : List (List UInt8)} {k : Nat} (h : fdL s0 (b.take k) = ⟨some [], O, n⟩) : FdL s0 b n0 2 cur n O k := .inr (.inr (.inl ⟨rfl, h⟩))
theorem FdL.in3 {s0 : LS} {b : List UInt8} {n0 : Nat} {cur : List UInt8} {n : Nat} {O : List (List UInt8)} {k : Nat} (h0 : O.length + 1 ≤ k) (h : fdL s0 (b.take k) = ⟨none, O ++ [chop cur], n⟩) : FdL s0 b n0 3 cur n O k := .inr (.inr (.inr (.inl ⟨rfl, h0, h⟩)))
theorem FdL.in4 {s0 : LS} {b : List UInt8} {n0 : Nat} {cur : List UInt8} {n : Nat} {O : List (List UInt8)} {k : Nat} (h0 : n + 1 ≤ n0 + k) (h : fdL s0 (b.take k) = ⟨none, O, n + 1⟩) : FdL s0 b n0 4 cur n O k := .inr (.inr (.inr (.inr ⟨rfl, h0, h⟩)))
def fdM (N : Nat) (l : Nat) (a : Act) (_ : World) : Nat := 4 * (N - (intOf (a.tmps.getD 6 undef)).toNat) + (if l = 0 then 1 else if l = 1 then 1 else 2)
theorem idx_b {ao : Option Addr} {ad : Addr} (n cap k : Nat) (h : ao = some ad) (hk : (k : Int) < n) (w : World) : Sem.run Try.prog (Instr.indexAt 31 (.slice ao n cap) (.int .i64 (k : Int))) w = .ok (.pointer (some (ad.add k))) w := by
  subst h
  have hk2 : k < n := by omega
  simp [Instr.indexAt, go_sem, hk2]
/-- what Feed answers -/
def FdE (s0 : LS) (b : List UInt8) (w : World) (q : Nat) (e : Ending) (w' : World) : Prop := ∃ u, e = .returned u ∧ Fq w w' q ∧ OwT w' w.heap.size u (fdL s0 b).out ∧ Ln w' q (fdL s0 b).st (fdL s0 b).lost
theorem FJ.step {b : List UInt8} {w w' w2 : World} {q n0 : Nat} {wi : Bool} {cur cur2 : List UInt8} {n n2 : Nat} {v : Value} {O : List (List UInt8)} {k : Nat} (h : FJ b w w' q n0 wi cur n v O k) (hk : k < b.length) (hq : q < w.heap.size) (hf : Fq w' w2 q) (hl : Li w2 q wi cur2 n2) (hn : n2 ≤ n + 1) : FJ b w w2 q n0 wi cur2 n2 v O (k + 1) := by
  refine ⟨h.fr.trans hf, hl, ?_, hk, Nat.le_succ_of_le h.ln, by have := h.lo; omega⟩
  exact World.ownsRow.kept (row := some q) h.ow ⟨hf.os, hf.tape, hf.output, hf.size, fun j hj hq => hf.block j hj (fun e => hq (by rw [e]))⟩ (by
    right
    intro e
    have := (h.ow.lt q e).1
    omega)
theorem FJ.stay {b : List UInt8} {w w' w2 : World} {q n0 : Nat} {wi wi2 : Bool} {cur cur2 : List UInt8} {n n2 : Nat} {v : Value} {O : List (List UInt8)} {k : Nat} (h : FJ b w w' q n0 wi cur n v O k) (hq : q < w.heap.size) (hf : Fq w' w2 q) (hl : Li w2 q wi2 cur2 n2) (hn : n2 ≤ n0 + k) : FJ b w w2 q n0 wi2 cur2 n2 v O k := by
  refine ⟨h.fr.trans hf, hl, ?_, h.hk, h.ln, hn⟩
  exact World.ownsRow.kept (row := some q) h.ow ⟨hf.os, hf.tape, hf.output, hf.size, fun j hj hq => hf.block j hj (fun e => hq (by rw [e]))⟩ (by
    right
    intro e
    have := (h.ow.lt q e).1
    omega)
theorem Li.drewN {w : World} {q : Nat} {wi : Bool} {cur : List UInt8} {n : Nat} (h : Li w q wi cur n) (m : Nat) : Li (w.drewN m) q wi cur n := h.below (below_drewN (Below.refl _ _) m) h.lt
theorem Fq.drewN {w w' : World} {q : Nat} (h : Fq w w' q) (m : Nat) : Fq w (w'.drewN m) q := h.trans (Fq.of_below (below_drewN (Below.refl _ _) m) (Nat.le_refl _))
theorem FJ.app {b : List UInt8} {w w' W w2 : World} {q n0 : Nat} {wi : Bool} {cur : List UInt8} {n : Nat} {v v2 : Value} {O : List (List UInt8)} {t : List UInt8} {k : Nat} (h : FJ b w w' q n0 wi cur n v O k) (hq : q < w.heap.size) (hb : Below w'.heap.size w' W) (ho : OwT w2 w.heap.size v2 (O ++ [t])) (hg : W.grownBy w2 v.ownBlock) (hO : O.length + 1 ≤ k) : FJ b w w2 q n0 wi cur n v2 (O ++ [t]) k := by
  have hq' := h.li.lt
  refine ⟨(h.fr.trans (Fq.of_below hb (Nat.le_refl _))).grown hg (fun j e => (h.ow.lt j e).1), ?_, ho, h.hk, by rw [List.length_append, List.length_singleton]; exact hO, h.lo⟩
  have h1 := h.li.below hb hq'
  refine h1.kept (hg.block q h1.lt (fun e => ?_)) hg.size
  have := (h.ow.lt q e.symm).1
  omega
theorem conv_b (w : World) (ad : Addr) (cap : Nat) (b : List UInt8) (h : ∀ k (hk : k < b.length), w.cell? (ad.add k) = some (.int .u8 (b[k].toNat : Int))) : (convert 31 9 (.slice (some ad) b.length cap)).run Try.prog w = .ok (.string (tx b)) w := by
  have hl : (loadCells ad (ib b).length).run Try.prog w = .ok ((ib b).map (Value.int .u8)).toArray w := by
    have := run_loadCells_list (P := Try.prog) w ad ((ib b).map (Value.int .u8)) (fun j v hj => by
      rw [List.getElem?_map] at hj
      by_cases hk : j < b.length
      · rw [h j hk]
        have : (ib b)[j]? = some (b[j].toNat : Int) := by unfold ib; rw [List.getElem?_map, List.getElem?_eq_getElem hk]; rfl
        rw [this] at hj
        exact hj
      · rw [List.getElem?_eq_none (by rw [ib_len]; omega)] at hj; cases hj)
    simpa using this
  have hlb : (ib b).length = b.length := ib_len b
  rw [← hlb]
  rw [run_convert_bytes_string w 31 9 5 _ (ib b).length cap Try.underlying31 Try.underlying5 Try.underlying9, run_bytesToString w _ (ib b).length cap (ib b) hl, foldl_push_bytes]
  have e : (ib b).map (fun x => UInt8.ofNat x.toNat) = b := by
    unfold ib
    rw [List.map_map]
    conv => rhs; rw [← List.map_id b]
    apply List.map_congr_left
    intro c _
    simp
  rw [e]
  congr 2
  unfold tx
  congr 1
  rw [show ByteArray.empty.data = #[] from rfl]
  simp
set_option maxRecDepth 8000 in
set_option maxHeartbeats 4000000 in
theorem feed_any (st : Option (List UInt8)) (n0 q N cap : Nat) (ao : Option Addr) (b : List UInt8) (w : World) (hL0 : Ln w q st n0) (hN : N = b.length) (hb : Rb w q ao b) (hbl : b.length ≤ 1000000) (hn : n0 ≤ 1000000) :
    Calls Try.prog 9 #[.pointer (some ⟨q, 0, none⟩), .slice ao N cap] w (FdE ⟨st, [], n0⟩ b w q) := by
  have hNi : (N : Int) ≤ 1000000 := by omega
  obtain ⟨cur0, hLi0, hcur0⟩ := hL0
  have HB : Hid (Rb w q ao b ∧ N = b.length ∧ q < w.heap.size) := ⟨hb, hN, hLi0.lt⟩
  have HL0 : Hid (Li w q st.isSome cur0 n0 ∧ ∀ c, st = some c → cur0 = c) := ⟨hLi0, hcur0⟩
  clear hb hcur0 hN hLi0
  go_enter Try.func9, Try.ntmps9
  go_wp2
  refine wp_scope_three 1 2 0 (FdJ ⟨st, [], n0⟩ b (.slice ao N cap) w q n0) (fdM N) rfl rfl rfl ?_ ?_ ?_ ?_ ?_
  · intro a w' M hJ hM
    obtain ⟨v, k, wi, cur, n, O, ⟨f, rfl⟩, H⟩ := hJ
    have HM : Hid (4 * (N - k) + 1 ≤ M) := by have h := hM; simp [fdM, intOf] at h; exact h
    have HF : Hid (fdL ⟨st, [], n0⟩ (b.take k) = ⟨some cur, O, n⟩) := H.out.2.at0
    clear hM
    have hct := H.out.1.li.ct
    have hlo := H.out.1.li.lo
    have hc0 := H.out.1.li.c0
    have hfz := H.out.1.li.fz
    have hkn := H.out.1.hk
    have hle := H.out.1.li.le
    have hnb := H.out.1.lo
    have hki : (k : Int) ≤ N := by have := HB.out.2.1; omega
    have hnb2 : (n : Int) ≤ 4000000 := by omega
    obtain ⟨L, hL⟩ : ∃ L : Nat, L = cur.length := ⟨_, rfl⟩
    have hL82 : (L : Int) ≤ 82 := by omega
    have HL : Hid (L = cur.length) := hL
    rw [← hL] at hct
    clear hnb hL
    by_cases hlt : k < N
    · have hlti : (k : Int) < N := by omega
      have hne : ((k : Int) == (N : Int)) = false := by rw [beq_eq_false_iff_ne]; omega
      obtain ⟨ad, hao, -, -, hcell⟩ := (HB.out.1.fq H.out.1.fr) k (by have := HB.out.2.1; omega)
      have hix := idx_b N cap k hao hlti
      have HS := fdL_take ⟨st, [], n0⟩ b k (by have := HB.out.2.1; omega)
      obtain ⟨c, hc⟩ : ∃ c, c = b[k]'(by have := HB.out.2.1; omega) := ⟨_, rfl⟩
      rw [← hc] at hcell HS
      rw [HF.out] at HS
      have HS : Hid (fdL ⟨st, [], n0⟩ (b.take (k + 1)) = stp ⟨some cur, O, n⟩ c) := HS
      clear hc hao
      have hkb : k < b.length := by have := HB.out.2.1; omega
      have HKB : Hid (k < b.length) := hkb
      clear hkb hkn hle
      by_cases h36 : (c.toNat : Int) = 36
      · have hb36 : ((c.toNat : Int) == 36) = true := by rw [h36]; rfl
        have HS2 : Hid (fdL ⟨st, [], n0⟩ (b.take (k + 1)) = ⟨some [], O, n + 1⟩) := HS.out.trans (stp_again (by omega))
        have HW : Hid (FJ b w (w'.setCell ⟨q, 84, none⟩ (.int .i64 ((n : Int) + 1))) q n0 wi cur (n + 1) v O (k + 1)) := H.out.1.step HKB.out HB.out.2.2 ((Fq.refl _ _).cell _) (H.out.1.li.setLost (n + 1)) (Nat.le_refl _)
        clear h36
        go_wp2
        go_step3
        refine ⟨⟨v, k + 1, _, _, _, _, FrF.mk, HW.out, FdL.in2 HS2.out⟩, ?_⟩
        have hM := HM.out
        simp [fdM, intOf]; omega
      · have hb36 : ((c.toNat : Int) == 36) = false := by rw [beq_eq_false_iff_ne]; exact h36
        by_cases h10 : (c.toNat : Int) = 10
        · have hb10 : ((c.toNat : Int) == 10) = true := by rw [h10]; rfl
          have HS2 : Hid (fdL ⟨st, [], n0⟩ (b.take (k + 1)) = ⟨none, O ++ [chop cur], n⟩) := HS.out.trans (stp_done (by omega))
          have HW : Hid (FJ b w w' q n0 wi cur n v O (k + 1)) := H.out.1.step HKB.out HB.out.2.2 (Fq.refl _ _) H.out.1.li (Nat.le_succ _)
          clear h36 h10
          go_wp2
          go_step3
          refine ⟨⟨v, k + 1, _, _, _, _, FrF.mk, HW.out, FdL.in3 (by have := H.out.1.ln; omega) HS2.out⟩, ?_⟩
          have hM := HM.out
          simp [fdM, intOf]; omega
        · have hb10 : ((c.toNat : Int) == 10) = false := by rw [beq_eq_false_iff_ne]; exact h10
          have HLi : Hid (Li w' q wi cur n) := H.out.1.li
          cases hm : mtB cur c
          · have HS2 : Hid (fdL ⟨st, [], n0⟩ (b.take (k + 1)) = ⟨none, O, n + 1⟩) := HS.out.trans (stp_lose (by omega) (by omega) hm)
            clear h36 h10
            go_wp2_with (go_at_call 14; refine (mayTake_any q wi cur n c _ HLi.out).mono ?_; rw [hm]; rintro e w9 ⟨rfl, m, rfl⟩)
            go_step3
            refine ⟨⟨v, k + 1, _, _, _, _, FrF.mk, H.out.1.step HKB.out HB.out.2.2 ((Fq.refl _ _).drewN m) (H.out.1.li.drewN m) (Nat.le_succ _), FdL.in4 (by have := H.out.1.lo; omega) HS2.out⟩, ?_⟩
            have hM := HM.out
            simp [fdM, intOf]; omega
          · have HS2 : Hid (fdL ⟨st, [], n0⟩ (b.take (k + 1)) = ⟨some (cur ++ [c]), O, n⟩) := HS.out.trans (stp_take (by omega) (by omega) hm)
            have hLt : (L : Int) < 82 := by
              have := HL.out
              unfold mtB at hm
              simp at hm
              omega
            have hL0 : (0 : Int) ≤ L := by omega
            have hL83 : ¬ (1 + L = 83) := by omega
            obtain ⟨x0, hx0⟩ := H.out.1.li.bt L (by omega)
            clear h36 h10
            go_wp2_with (go_at_call 14; refine (mayTake_any q wi cur n c _ HLi.out).mono ?_; rw [hm]; rintro e w9 ⟨rfl, m, rfl⟩)
            go_region
            go_wp2
            go_step3
            have hp := (HLi.out.drewN m).push c (by have := HL.out; omega) true
            rw [← HL.out] at hp
            refine ⟨⟨v, k + 1, _, _, _, _, FrF.mk, H.out.1.step HKB.out HB.out.2.2 (((((Fq.refl _ _).drewN m).cell _).drew).cell _) hp (Nat.le_succ _), FdL.in0 HS2.out⟩, ?_⟩
            have hM := HM.out
            simp [fdM, intOf]; omega
    · have he : (k : Int) = N := by omega
      have hb : ((k : Int) == (N : Int)) = true := by rw [he]; simp
      have HE : Hid (fdL ⟨st, [], n0⟩ b = ⟨some cur, O, n⟩) := by
        have h1 := HF.out
        rw [List.take_of_length_le (by have := HB.out.2.1; omega)] at h1
        exact h1
      have HW : Hid (FJ b w (w'.setCell ⟨q, 0, none⟩ (.bool true)) q n0 true cur n v O k) := H.out.1.stay HB.out.2.2 ((Fq.refl _ _).cell _) (H.out.1.li.setWi true) H.out.1.lo
      clear he hkn hle
      go_wp2
      simp only [exJ]
      go_ret
      refine ⟨v, rfl, HW.out.fr, ?_, ?_⟩
      · rw [HE.out]; exact HW.out.ow
      · rw [HE.out]; exact ⟨cur, HW.out.li, fun c hc => by injection hc⟩
  · intro a w' M hJ hM P3
    obtain ⟨v, k, wi, cur, n, O, ⟨f, rfl⟩, H⟩ := hJ
    have HM : Hid (4 * (N - k) + 2 ≤ M) := by have h := hM; simp [fdM, intOf] at h; exact h
    have HF : Hid (fdL ⟨st, [], n0⟩ (b.take k) = ⟨some [], O, n⟩) := H.out.2.at2
    have HP : Hid (∀ a w', FdJ ⟨st, [], n0⟩ b (.slice ao N cap) w q n0 0 a w' → fdM N 0 a w' ≤ M → _) := P3
    clear hM P3
    have hct := H.out.1.li.ct
    have hfz := H.out.1.li.fz
    have HW : Hid (FJ b w (w'.setCell ⟨q, 83, none⟩ (.int .i64 0)) q n0 wi [] n v O k) := H.out.1.stay HB.out.2.2 ((Fq.refl _ _).cell _) H.out.1.li.clear H.out.1.lo
    go_wp2
    go_step3
    rename_i hK
    refine hK _ _ (HP.out _ _ ⟨v, k, _, _, _, _, FrF.mk, HW.out, FdL.in0 HF.out⟩ ?_)
    have hM := HM.out
    simp [fdM, intOf]; omega
  · intro a w' M hJ hM P2
    obtain ⟨v, k, wi, cur, n, O, ⟨f, rfl⟩, H⟩ := hJ
    have HM : Hid (4 * (N - k) + 1 ≤ M) := by have h := hM; simp [fdM, intOf] at h; exact h
    have HF : Hid (fdL ⟨st, [], n0⟩ (b.take k) = ⟨none, O, n⟩) := H.out.2.at1
    have HP : Hid (∀ a w', FdJ ⟨st, [], n0⟩ b (.slice ao N cap) w q n0 2 a w' → fdM N 2 a w' ≤ M → _) := P2
    clear hM P2
    have hc0 := H.out.1.li.c0
    have hfz := H.out.1.li.fz
    have hkn := H.out.1.hk
    have hki : (k : Int) ≤ N := by have := HB.out.2.1; omega
    by_cases hlt : k < N
    · have hlti : (k : Int) < N := by omega
      have hne : ((k : Int) == (N : Int)) = false := by rw [beq_eq_false_iff_ne]; omega
      obtain ⟨ad, hao, -, -, hcell⟩ := (HB.out.1.fq H.out.1.fr) k (by have := HB.out.2.1; omega)
      have hix := idx_b N cap k hao hlti
      have HS := fdL_take ⟨st, [], n0⟩ b k (by have := HB.out.2.1; omega)
      obtain ⟨c, hc⟩ : ∃ c, c = b[k]'(by have := HB.out.2.1; omega) := ⟨_, rfl⟩
      rw [← hc] at hcell HS
      rw [HF.out] at HS
      have HS : Hid (fdL ⟨st, [], n0⟩ (b.take (k + 1)) = stp ⟨none, O, n⟩ c) := HS
      clear hc hao
      have HKB : Hid (k < b.length) := by have := HB.out.2.1; show _ < _; omega
      have HW : Hid (FJ b w w' q n0 wi cur n v O (k + 1)) := H.out.1.step HKB.out HB.out.2.2 (Fq.refl _ _) H.out.1.li (Nat.le_succ _)
      clear hkn
      by_cases h36 : (c.toNat : Int) = 36
      · have hb36 : ((c.toNat : Int) != 36) = false := by rw [h36]; rfl
        have HS2 : Hid (fdL ⟨st, [], n0⟩ (b.take (k + 1)) = ⟨some [], O, n⟩) := HS.out.trans (stp_begin (by omega))
        clear h36
        go_wp2
        go_step3
        rename_i hK
        refine hK _ _ (HP.out _ _ ⟨v, k + 1, _, _, _, _, FrF.mk, HW.out, FdL.in2 HS2.out⟩ ?_)
        have hM := HM.out
        simp [fdM, intOf]; omega
      · have hb36 : ((c.toNat : Int) != 36) = true := by rw [bne_iff_ne]; exact h36
        have HS2 : Hid (fdL ⟨st, [], n0⟩ (b.take (k + 1)) = ⟨none, O, n⟩) := HS.out.trans (stp_out (by omega))
        clear h36 HP
        go_wp2
        go_step3
        refine ⟨⟨v, k + 1, _, _, _, _, FrF.mk, HW.out, FdL.in1 HS2.out⟩, ?_⟩
        have hM := HM.out
        simp [fdM, intOf]; omega
    · have he : (k : Int) = N := by omega
      have hb : ((k : Int) == (N : Int)) = true := by rw [he]; simp
      have HE : Hid (fdL ⟨st, [], n0⟩ b = ⟨none, O, n⟩) := by
        have h1 := HF.out
        rw [List.take_of_length_le (by have := HB.out.2.1; omega)] at h1
        exact h1
      have HW : Hid (FJ b w (w'.setCell ⟨q, 0, none⟩ (.bool false)) q n0 false cur n v O k) := H.out.1.stay HB.out.2.2 ((Fq.refl _ _).cell _) (H.out.1.li.setWi false) H.out.1.lo
      clear he hkn HP
      go_wp2
      simp only [exJ]
      go_ret
      refine ⟨v, rfl, HW.out.fr, ?_, ?_⟩
      · rw [HE.out]; exact HW.out.ow
      · rw [HE.out]; exact ⟨cur, HW.out.li, fun c hc => by cases hc⟩
  · intro l a w' M n1 n2 n3 hJ hM
    obtain ⟨v, k, wi, cur, n, O, ⟨f, rfl⟩, H⟩ := hJ
    rcases H.out.2 with ⟨h0, _⟩ | ⟨h0, _⟩ | ⟨h0, _⟩ | ⟨h0, hO, hF⟩ | ⟨h0, hn1, hF⟩
    · exact absurd h0 n3
    · exact absurd h0 n1
    · exact absurd h0 n2
    · subst h0
      have HM : Hid (M = 4 * (N - k) + 2) := by show _ = _; rw [← hM]; simp [fdM, intOf]
      have HF : Hid (O.length + 1 ≤ k ∧ fdL ⟨st, [], n0⟩ (b.take k) = ⟨none, O ++ [chop cur], n⟩) := ⟨hO, hF⟩
      clear hM hF hO n1 n2 n3
      have hct := H.out.1.li.ct
      have hle := H.out.1.li.le
      obtain ⟨L, hL⟩ : ∃ L : Nat, L = cur.length := ⟨_, rfl⟩
      have hcv : ∀ u : World, Li u q wi cur n → (convert 31 9 (.slice (some ⟨q, 1, none⟩) L 82)).run Try.prog u = .ok (.string (tx cur)) u := fun u hu => by
        rw [hL]
        refine conv_b u _ 82 cur (fun j hj => ?_)
        rw [show (⟨q, 1, none⟩ : Addr).add j = ⟨q, 1 + j, none⟩ by unfold Addr.add; split <;> simp_all]
        exact hu.at' j hj
      have hcvd := hcv w'.drew H.out.1.li.drew
      clear hcv
      rw [← hL] at hct
      have hL82 : (L : Int) ≤ 82 := by omega
      have HT : Hid (∀ u, Calls Try.prog 15 #[.string (tx cur), .string ⟨#[13]⟩] u fun e w' => e = .returned (.string (tx (chop cur))) ∧ w' = u) := fun u => trim_any cur u hle
      have HA : Hid (∀ u : World, w.heap.size ≤ u.heap.size → OwT (u.alloc (.cells #[.string (tx (chop cur))] 9)) w.heap.size (.slice (some ⟨u.heap.size, 0, none⟩) 1 1) [chop cur]) := fun u hu => OwT.one u _ _ _ rfl hu
      obtain ⟨X, hX⟩ : ∃ X, X = tx cur := ⟨_, rfl⟩
      obtain ⟨Y, hY⟩ : ∃ Y, Y = tx (chop cur) := ⟨_, rfl⟩
      have hOb : O.length ≤ 1000000 := by have := HF.out.1; have := H.out.1.hk; omega
      have HO : Hid (O.length + [chop cur].length ≤ 8000000 ∧ w.heap.size ≤ w'.heap.size) := ⟨by simp; omega, H.out.1.fr.size⟩
      rw [← hX] at hcvd HT
      rw [← hY] at HT HA
      clear hX hY hL hle hOb
      refine ⟨_, rfl, ?_⟩
      go_wp2
      go_region_law (first | ((fail_if_success (refine is_app _ _ _ (by rfl) ?_)); go_wp2_with (go_at_call 15; refine (HT.out _).mono ?_; rintro e w9 ⟨rfl, hw9⟩; rw [hw9]; clear hw9)) | (refine step_appTs (by rfl) _ _ 29 (by rfl) Try.underlying29 w.heap.size w.heap.size v _ O [chop cur] (by rfl) (by rfl) (by first | exact (H.out.1.ow.drew).alloc _ | exact H.out.1.ow.alloc _ | exact (H.out.1.ow.alloc _).drew) (by first | exact HA.out _ HO.out.2) HO.out.1 (by have := HO.out.2; simp; omega) ?_; intro v2 w2 ho2 hg2 hv2; have G2 : Hid (FJ b w w2 q n0 wi cur n v2 (O ++ [chop cur]) k) := H.out.1.app HB.out.2.2 (by first | exact ((Below.refl _ _).drew.alloc (Nat.le_refl _) _) | exact ((Below.refl _ _).alloc (Nat.le_refl _) _)) ho2 hg2 HF.out.1; clear ho2 hg2 hv2))
      go_wp2
      go_step3
      refine ⟨⟨v2, k, _, _, _, _, FrF.mk, G2.out, FdL.in1 HF.out.2⟩, ?_⟩
      show 4 * (N - ((k : Int)).toNat) + 1 < M
      rw [HM.out, Int.toNat_natCast]
      omega
    · subst h0
      have HM : Hid (M = 4 * (N - k) + 2) := by show _ = _; rw [← hM]; simp [fdM, intOf]
      have HF : Hid (fdL ⟨st, [], n0⟩ (b.take k) = ⟨none, O, n + 1⟩) := hF
      have HW : Hid (FJ b w (w'.setCell ⟨q, 84, none⟩ (.int .i64 ((n : Int) + 1))) q n0 wi cur (n + 1) v O k) := H.out.1.stay HB.out.2.2 ((Fq.refl _ _).cell _) (H.out.1.li.setLost (n + 1)) hn1
      have hlo := H.out.1.li.lo
      have hfz := H.out.1.li.fz
      have hnb := H.out.1.lo
      have hkn := H.out.1.hk
      have hnb2 : (n : Int) ≤ 4000000 := by have := HB.out.2.1; omega
      clear hM hF n1 n2 n3 hn1 hnb hkn
      refine ⟨_, rfl, ?_⟩
      go_wp2
      go_step3
      refine ⟨⟨v, k, _, _, _, _, FrF.mk, HW.out, FdL.in1 HF.out⟩, ?_⟩
      rw [HM.out]
      simp [fdM, intOf]
  · intro h1
    have H1 : Hid (∀ a w', FdJ ⟨st, [], n0⟩ b (.slice ao N cap) w q n0 1 a w' → _) := h1
    have hc0 := HL0.out.1.c0
    clear h1
    have HJ : Hid (FJ b w w q n0 st.isSome cur0 n0 (.slice none 0 0) [] 0) := ⟨Fq.refl _ _, HL0.out.1, OwT.nil _ _, Nat.zero_le _, Nat.le_refl _, Nat.le_refl _⟩
    cases st with
    | none =>
      simp only [Option.isSome] at hc0
      go_wp2
      go_step3
      rename_i hK
      exact hK _ _ (H1.out _ _ ⟨_, 0, _, _, _, _, FrF.mk, HJ.out, FdL.in1 rfl⟩)
    | some c =>
      simp only [Option.isSome] at hc0
      have HC : Hid (cur0 = c) := HL0.out.2 c rfl
      clear H1
      go_wp2
      go_step3
      exact ⟨_, 0, _, _, _, _, FrF.mk, HJ.out, FdL.in0 (by rw [HC.out]; rfl)⟩
end Go.Proofs.Ythoilihokbakoaa
