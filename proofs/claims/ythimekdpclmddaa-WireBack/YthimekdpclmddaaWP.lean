/- What bytes and sameControl of the laws' package return where both are the same. -/
import Derived.Test.YthimekdpclmddaaWD
import Derived.Laws.BytesArg
namespace Go.Proofs.Ythimekdpclmddaa
open Go.RowKit
theorem conv8 {N : Nat} {v : Value} {bs : List Int} (w : World) (h : Sv N w v bs) : (convert 27 9 v).run Try.prog w = .ok (.string (strOfNums bs)) w := by
  obtain ⟨ao, cap, rfl, h1, h2, h3, h4⟩ := h
  have u9 : Try.prog.underlying 9 = some .string := Try.underlying9
  have u5 : Try.prog.underlying 5 = some (.int .u8) := Try.underlying5
  cases ao with
  | none =>
    have hc := h2 rfl
    have hl0 : bs = [] := List.length_eq_zero_iff.1 (by omega)
    subst hl0
    rw [run_convert_bytes_nil w 27 5 Try.underlying27 u5 _ _ 9 u9]
    rfl
  | some ad =>
    have hl : (loadCells ad bs.length).run Try.prog w = .ok (bs.map (Value.int .u8)).toArray w := by
      have := run_loadCells_list (P := Try.prog) w ad (bs.map (Value.int .u8)) (fun j v hj => h3.news j v hj)
      simpa using this
    rw [run_convert_bytes_string w 27 9 5 _ bs.length cap Try.underlying27 u5 u9, run_bytesToString w _ bs.length cap bs hl, foldl_push_bytes]
    simp [strOfNums, ByteArray.empty, ByteArray.emptyWithCapacity]
    rfl
set_option maxHeartbeats 1000000 in
theorem lbytes_eq (N M : Nat) (v1 v2 : Value) (bs : List Int) (w : World) (h1 : Sv N w v1 bs) (h2 : Sv M w v2 bs) :
    Calls Try.prog 18 #[v1, v2] w fun e w' => e = .returned (.bool true) ∧ w' = w := by
  have e1 := conv8 w h1
  have e2 := conv8 w h2
  obtain ⟨S, hS⟩ : ∃ S, S = strOfNums bs := ⟨_, rfl⟩
  rw [← hS] at e1 e2
  clear h1 h2 hS
  go_enter Try.func18, Try.ntmps18
  go_wp2
  go_ret
  exact ⟨rfl, rfl⟩
set_option maxRecDepth 8000 in
set_option maxHeartbeats 4000000 in
theorem sameControl_eq (N M : Nat) (ver : Int) (r e m : Bool) (op seq sta ass off : Int) (dv dv' : Value) (key : Int) (mv mv' : Value) (data mac : List Int) (w : World) (hd : Sv N w dv data) (hd' : Sv M w dv' data) (hm : Sv N w mv mac) (hm' : Sv M w mv' mac) (hN : N ≤ w.heap.size) (hM : M ≤ w.heap.size) :
    Calls Try.prog 32 #[ctV ver r e m op seq sta ass off dv key mv, ctV ver r e m op seq sta ass off dv' key mv'] w fun e' w' => e' = .returned (.bool true) ∧ Below w.heap.size w w' := by
  have K : Hid (∀ v, Below w.heap.size w v → Sv N v dv data ∧ Sv M v dv' data ∧ Sv N v mv mac ∧ Sv M v mv' mac) := fun v hb => ⟨hd.below hb hN, hd'.below hb hM, hm.below hb hN, hm'.below hb hM⟩
  obtain ⟨da, dc, rfl, -⟩ := hd
  obtain ⟨da', dc', rfl, -⟩ := hd'
  obtain ⟨ma, mc, rfl, -⟩ := hm
  obtain ⟨ma', mc', rfl, -⟩ := hm'
  obtain ⟨Dn, hDn⟩ : ∃ L, L = data.length := ⟨_, rfl⟩
  obtain ⟨Mn, hMn⟩ : ∃ L, L = mac.length := ⟨_, rfl⟩
  rw [← hDn, ← hMn] at K ⊢
  clear hDn hMn hN hM
  unfold ctV
  go_enter Try.func32, Try.ntmps32
  go_wp2_with (go_at_call 18; (first | refine (lbytes_eq N M _ _ data _ (K.out _ (by repeat' (first | with_reducible exact Below.refl _ _ | with_reducible refine Below.setCell ?_ (by first | (simp; done) | (simp; omega) | omega) _ | with_reducible refine below_drewN ?_ _ | with_reducible refine Below.drew ?_ | with_reducible refine Below.alloc ?_ (by first | (simp; done) | (simp; omega) | omega) _))).1 (K.out _ (by repeat' (first | with_reducible exact Below.refl _ _ | with_reducible refine Below.setCell ?_ (by first | (simp; done) | (simp; omega) | omega) _ | with_reducible refine below_drewN ?_ _ | with_reducible refine Below.drew ?_ | with_reducible refine Below.alloc ?_ (by first | (simp; done) | (simp; omega) | omega) _))).2.1).mono ?_ | refine (lbytes_eq N M _ _ mac _ (K.out _ (by repeat' (first | with_reducible exact Below.refl _ _ | with_reducible refine Below.setCell ?_ (by first | (simp; done) | (simp; omega) | omega) _ | with_reducible refine below_drewN ?_ _ | with_reducible refine Below.drew ?_ | with_reducible refine Below.alloc ?_ (by first | (simp; done) | (simp; omega) | omega) _))).2.2.1 (K.out _ (by repeat' (first | with_reducible exact Below.refl _ _ | with_reducible refine Below.setCell ?_ (by first | (simp; done) | (simp; omega) | omega) _ | with_reducible refine below_drewN ?_ _ | with_reducible refine Below.drew ?_ | with_reducible refine Below.alloc ?_ (by first | (simp; done) | (simp; omega) | omega) _))).2.2.2).mono ?_); rintro e' w' ⟨rfl, hw⟩; rw [hw]; clear hw)
  go_ret
  exact ⟨rfl, (by repeat' (first | with_reducible exact Below.refl _ _ | with_reducible refine Below.setCell ?_ (by first | (simp; done) | (simp; omega) | omega) _ | with_reducible refine below_drewN ?_ _ | with_reducible refine Below.drew ?_ | with_reducible refine Below.alloc ?_ (by first | (simp; done) | (simp; omega) | omega) _))⟩
end Go.Proofs.Ythimekdpclmddaa
