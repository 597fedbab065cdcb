/- What ControlMessage and EncodeControl of package wire return. -/
import Derived.Test.YthimekdpclmddaaWD
namespace Go.Proofs.Ythimekdpclmddaa
open Go.RowKit
/-- a packet of control without key and digest, as bytes -/
def cmH (ver : Int) (r e m : Bool) (op seq sta ass off : Int) (dn : Int) : List Int :=
  be 1 (8 * ver + 6) ++ be 1 (32 * flg r e m + op) ++ be 2 seq ++ be 2 sta ++ be 2 ass ++ be 2 off ++ be 2 dn
def cmB (ver : Int) (r e m : Bool) (op seq sta ass off : Int) (data : List Int) : List Int :=
  cmH ver r e m op seq sta ass off data.length ++ data ++ be (fil data.length - data.length).toNat 0
theorem cc_ok {ver op seq sta ass off key : Int} {dn mn : Nat} (h : ccE ver op seq sta ass off key dn mn = 0) :
    (0 ≤ seq ∧ seq ≤ 65535) ∧ (0 ≤ sta ∧ sta ≤ 65535) ∧ (0 ≤ ass ∧ ass ≤ 65535) ∧ (0 ≤ off ∧ off ≤ 65535) ∧ (1 ≤ ver ∧ ver ≤ 4) ∧ (0 ≤ op ∧ op ≤ 31) ∧ dfB key mn = true ∧ 12 + fil dn + dsz key mn ≤ 512 := by
  unfold ccE at h
  split at h
  · rename_i h1
    split at h
    · cases h
    · rename_i h2
      unfold cfB at h1
      simp only [Bool.and_eq_true, wiB_iff] at h1
      obtain ⟨⟨⟨⟨⟨⟨a, b⟩, c⟩, d⟩, e⟩, f⟩, g⟩ := h1
      exact ⟨a, b, c, d, e, f, g, by omega⟩
  · cases h
theorem df_ok {key : Int} {mn : Nat} (h : dfB key mn = true) : 0 ≤ key ∧ key ≤ 65535 ∧ mn ≤ 20 ∧ (key = 0 ↔ mn = 0) := by
  unfold dfB at h
  split at h
  · simp at h; omega
  · split at h
    · rw [wiB_iff] at h; omega
    · cases h
/-- numbers of one width, one behind another -/
def cat (k : Nat) (xs : List Int) (n : Nat) : List Int := ((xs.take n).map (be k)).flatten
theorem cat_len_le (k : Nat) (xs : List Int) (n : Nat) : (cat k xs n).length ≤ k * n := by
  unfold cat
  induction n generalizing xs with
  | zero => simp
  | succ n ih =>
    cases xs with
    | nil => simp
    | cons x r =>
      have := ih r
      rw [List.take_succ_cons, List.map_cons, List.flatten_cons, List.length_append, be_len, Nat.mul_succ]
      omega
/-- the state of the walk of a writer: what it has, what is kept -/
structure MS (w v0 : World) (B q p : Nat) (cs : Array Value) (v : Value) (bs : List Int) : Prop where
  st : Wr B q v0 v bs
  bel : Below w.heap.size w v0
  ck : Ck p v0 cs
theorem MS.step {w wr w' : World} {B q p : Nat} {cs : Array Value} {v v' : Value} {bs bs' : List Int} (h : MS w wr B q p cs v bs) (hb : Below B wr w') (hw : Wr B q w' v' bs') (hp : p < B) (hB : w.heap.size ≤ B) : MS w w' B q p cs v' bs' :=
  ⟨hw, h.bel.trans (hb.mono hB), h.ck.below hb hp⟩
set_option maxHeartbeats 4000000 in
theorem controlMessage_ok (ver : Int) (r e m : Bool) (op seq sta ass off : Int) (dv : Value) (data : List Int) (key : Int) (ma : Option Addr) (mn mc : Nat) (w : World) (hmn : (mn : Int) ≤ 140737488355327) (hd : Sv w.heap.size w dv data) (hC : ccE ver op seq sta ass off key data.length mn = 0) :
    Calls Try.prog 28 #[ctV ver r e m op seq sta ass off dv key (.slice ma mn mc)] w fun e' w' => ∃ v, e' = .returned (.tuple #[v, .int .i64 0]) ∧ Below w.heap.size w w' ∧ Own w' w.heap.size v (cmB ver r e m op seq sta ass off data) := by
  obtain ⟨⟨sq0, sq1⟩, ⟨st0, st1⟩, ⟨as0, as1⟩, ⟨of0, of1⟩, ⟨v0, v1⟩, ⟨o0, o1⟩, hdf, hsz⟩ := cc_ok hC
  have HD : Hid (Sv w.heap.size w dv data) := hd
  obtain ⟨da, dc, rfl, hd1, hd2, hd3, hd4⟩ := hd
  have hf := fil_le data.length
  have hdz := dsz_le key mn
  have hdn : (data.length : Int) ≤ 500 := by omega
  obtain ⟨Dn, hDn⟩ : ∃ Dn : Nat, Dn = data.length := ⟨_, rfl⟩
  rw [← hDn] at hdn hC hf hsz HD ⊢
  have HDn : Hid (Dn = data.length) := hDn
  clear hDn hd1 hd2 hd3 hd4
  have HCk : Hid (∀ (w : World), Calls Try.prog 30 #[.agg #[.int .i64 ver, .bool r, .bool e, .bool m, .int .i64 op, .int .i64 seq, .int .i64 sta, .int .i64 ass, .int .i64 off, .slice da Dn dc, .int .i64 key, .slice ma mn mc]] w fun e' w' => e' = .returned (.int .i64 0) ∧ Below w.heap.size w w') := by
    intro w
    have := checkControl_any ver r e m op seq sta ass off da Dn dc key ma mn mc w (by omega) hmn
    rw [hC] at this
    exact this
  have HFl : Hid (∀ (w : World), Calls Try.prog 58 #[.agg #[.int .i64 ver, .bool r, .bool e, .bool m, .int .i64 op, .int .i64 seq, .int .i64 sta, .int .i64 ass, .int .i64 off, .slice da Dn dc, .int .i64 key, .slice ma mn mc]] w fun e' w' => e' = .returned (.int .i64 (32 * flg r e m)) ∧ Below w.heap.size w w') := fun w => flags_any ver r e m op seq sta ass off da Dn dc key ma mn mc w
  obtain ⟨FG, hFG⟩ : ∃ FG, FG = flg r e m := ⟨_, rfl⟩
  rw [← hFG] at HFl
  have fb := flg_bd r e m
  rw [← hFG] at fb
  have HFG : Hid (FG = flg r e m) := hFG
  obtain ⟨X0, hX0⟩ : ∃ X : Int, X = 8 * ver + 6 := ⟨_, rfl⟩
  obtain ⟨X1, hX1⟩ : ∃ X : Int, X = 32 * FG + op := ⟨_, rfl⟩
  have b0 : IntKind.i64.wrap (ver * 8) = 8 * ver := by simp only [IntKind.wrap_i64]; omega
  have b1 : bits .or .i64 (32 * FG) op = X1 := by rw [hX1]; exact i64_or_flags FG op fb.1 fb.2 o0 (by omega)
  have b2 : bits .or .i64 (8 * ver) 6 = X0 := by rw [hX0]; exact i64_or_mode ver 6 (by omega) (by omega) (by omega) (by omega)
  have x00 : 0 ≤ X0 := by omega
  have x01 : X0 < 256 := by omega
  have x10 : 0 ≤ X1 := by omega
  have x11 : X1 < 256 := by omega
  have HX : Hid (X0 = 8 * ver + 6 ∧ X1 = 32 * FG + op) := ⟨hX0, hX1⟩
  clear hX0 hX1
  have i20 : ∀ (x y : Value) w, (Instr.index 82 (.agg #[x, y]) (.int .i64 0)).run Try.prog w = .ok x w := fun _ _ _ => by kernel_rfl
  have i21 : ∀ (x y : Value) w, (Instr.index 82 (.agg #[x, y]) (.int .i64 1)).run Try.prog w = .ok y w := fun _ _ _ => by kernel_rfl
  have i50 : ∀ (x y z u v : Value) w, (Instr.index 83 (.agg #[x, y, z, u, v]) (.int .i64 0)).run Try.prog w = .ok x w := fun _ _ _ _ _ _ => by kernel_rfl
  have i51 : ∀ (x y z u v : Value) w, (Instr.index 83 (.agg #[x, y, z, u, v]) (.int .i64 1)).run Try.prog w = .ok y w := fun _ _ _ _ _ _ => by kernel_rfl
  have i52 : ∀ (x y z u v : Value) w, (Instr.index 83 (.agg #[x, y, z, u, v]) (.int .i64 2)).run Try.prog w = .ok z w := fun _ _ _ _ _ _ => by kernel_rfl
  have i53 : ∀ (x y z u v : Value) w, (Instr.index 83 (.agg #[x, y, z, u, v]) (.int .i64 3)).run Try.prog w = .ok u w := fun _ _ _ _ _ _ => by kernel_rfl
  have i54 : ∀ (x y z u v : Value) w, (Instr.index 83 (.agg #[x, y, z, u, v]) (.int .i64 4)).run Try.prog w = .ok v w := fun _ _ _ _ _ _ => by kernel_rfl
  obtain ⟨f0, f1⟩ := fb
  clear hFG hdf hC hsz hdz hmn
  unfold ctV
  go_enter Try.func28, Try.ntmps28
  go_wp2_with fail
  refine (HCk.out _).mono ?_
  rintro e' w1 ⟨rfl, hb⟩
  have HB : Hid (Below (w.heap.size + 1) (w.alloc (.cells #[.int .i64 ver, .bool r, .bool e, .bool m, .int .i64 op, .int .i64 seq, .int .i64 sta, .int .i64 ass, .int .i64 off, .slice da Dn dc, .int .i64 key, .slice ma mn mc] 48)) w1) := hb.mono (by simp)
  have sz1 : w.heap.size < w1.heap.size := by have := hb.size; simp at this; omega
  have K1 : Hid (Ck w.heap.size w1 #[.int .i64 ver, .bool r, .bool e, .bool m, .int .i64 op, .int .i64 seq, .int .i64 sta, .int .i64 ass, .int .i64 off, .slice da Dn dc, .int .i64 key, .slice ma mn mc]) := (Ck.new w _ 48).below HB.out (by omega)
  have B1 : Hid (Below w.heap.size w w1) := Below.trans (by repeat' (first | with_reducible exact Below.refl _ _ | with_reducible refine Below.setCell ?_ (by first | (simp; done) | (simp; omega) | omega) _ | with_reducible refine below_drewN ?_ _ | with_reducible refine Below.drew ?_ | with_reducible refine Below.alloc ?_ (by first | (simp; done) | (simp; omega) | omega) _)) (HB.out.mono (by omega))
  clear hb HB
  have K2 : Hid (Ck w.heap.size (w1.alloc (.cells #[.slice none 0 0] 56)) #[.int .i64 ver, .bool r, .bool e, .bool m, .int .i64 op, .int .i64 seq, .int .i64 sta, .int .i64 ass, .int .i64 off, .slice da Dn dc, .int .i64 key, .slice ma mn mc]) := K1.out.below ((Below.refl w1.heap.size w1).alloc (Nat.le_refl _) _) sz1
  go_wp2_with fail
  obtain ⟨W2, hW2⟩ : ∃ W2, W2 = w1.alloc (.cells #[.slice none 0 0] 56) := ⟨_, rfl⟩
  obtain ⟨q, hq⟩ : ∃ q, q = w1.heap.size := ⟨_, rfl⟩
  have R2 : Hid (Wr (w.heap.size + 1) q W2 (.slice none 0 0) []) := ⟨Own.nil _ _, by omega, by rw [hW2, hq]; simp, by simp [Value.ownBlock], by rw [hW2, hq]; simp, by rw [hW2, hq]; simp⟩
  have B2 : Hid (Below w.heap.size w W2) := by show Below _ _ _; rw [hW2]; exact B1.out.alloc (by omega) _
  have sz2 : w.heap.size < W2.heap.size := by rw [hW2]; simp; omega
  rw [← hW2] at K2 ⊢
  rw [← hq]
  clear hW2 hq K1 B1 sz1
  obtain ⟨c0, c1, c2, c3, c4, c5, c6, c7, c8, c9, c10, c11⟩ := K2.out.c12
  go_region_held3 (fun w' => w'.cell? ⟨w.heap.size, 0, none⟩ = some (.int .i64 ver) ∧ w'.cell? ⟨w.heap.size, 1, none⟩ = some (.bool r) ∧ w'.cell? ⟨w.heap.size, 2, none⟩ = some (.bool e) ∧ w'.cell? ⟨w.heap.size, 3, none⟩ = some (.bool m) ∧ w'.cell? ⟨w.heap.size, 4, none⟩ = some (.int .i64 op) ∧ w'.cell? ⟨w.heap.size, 5, none⟩ = some (.int .i64 seq) ∧ w'.cell? ⟨w.heap.size, 6, none⟩ = some (.int .i64 sta) ∧ w'.cell? ⟨w.heap.size, 7, none⟩ = some (.int .i64 ass) ∧ w'.cell? ⟨w.heap.size, 8, none⟩ = some (.int .i64 off) ∧ w'.cell? ⟨w.heap.size, 9, none⟩ = some (.slice da Dn dc) ∧ w'.cell? ⟨w.heap.size, 10, none⟩ = some (.int .i64 key) ∧ w'.cell? ⟨w.heap.size, 11, none⟩ = some (.slice ma mn mc)) (first | exact ⟨c0, c1, c2, c3, c4, c5, c6, c7, c8, c9, c10, c11⟩ | exact ⟨d0, d1, d2, d3, d4, d5, d6, d7, d8, d9, d10, d11⟩ | go_keep) ((go_at_call 58; refine (HFl.out _).mono ?_; rintro e' w3 ⟨rfl, hb3'⟩; have hb3 := undrew hb3'; clear hb3'; have K3 : Hid (Ck w.heap.size w3 #[.int .i64 ver, .bool r, .bool e, .bool m, .int .i64 op, .int .i64 seq, .int .i64 sta, .int .i64 ass, .int .i64 off, .slice da Dn dc, .int .i64 key, .slice ma mn mc]) := (K2.out.below hb3 sz2); obtain ⟨d0, d1, d2, d3, d4, d5, d6, d7, d8, d9, d10, d11⟩ := K3.out.c12; have R3 : Hid (Wr (w.heap.size + 1) q w3 (.slice none 0 0) []) := (R2.out.below hb3 (Nat.le_refl _)); have B3 : Hid (Below w.heap.size w w3) := (B2.out.trans (hb3.mono (Nat.le_of_lt sz2))); clear hb3))
  have M3 : Hid (MS w w3 (w.heap.size + 1) q w.heap.size #[.int .i64 ver, .bool r, .bool e, .bool m, .int .i64 op, .int .i64 seq, .int .i64 sta, .int .i64 ass, .int .i64 off, .slice da Dn dc, .int .i64 key, .slice ma mn mc] (.slice none 0 0) (cat 1 [X0, X1] 0)) := ⟨by simpa [cat] using R3.out, B3.out, K3.out⟩
  clear R3 B3 K3 R2 B2 K2 d0 d1 d2 d3 d4 d5 d6 d7 d8 d9 d10 d11 c0 c1 c2 c3 c4 c5 c6 c7 c8 c9 c10 c11
  go_wp2
  go_loopw [26] (fun i wr => ∃ (k : Int) (v : Value), i = .int .i64 k ∧ 0 ≤ k ∧ k ≤ 2 ∧ Hid (MS w wr (w.heap.size + 1) q w.heap.size #[.int .i64 ver, .bool r, .bool e, .bool m, .int .i64 op, .int .i64 seq, .int .i64 sta, .int .i64 ass, .int .i64 off, .slice da Dn dc, .int .i64 key, .slice ma mn mc] v (cat 1 [X0, X1] k.toNat))) (fun i _ => (2 - intOf i).toNat)
  case atStart => exact ⟨0, _, rfl, by omega, by omega, M3⟩
  case round =>
    obtain ⟨k, v, rfl, k0, k1, hM⟩ := hrel
    have hk : k = 0 ∨ k = 1 ∨ k = 2 := by omega
    clear k0 k1 M3
    rcases hk with rfl | rfl | rfl
    · go_wp2_with fail
      refine (number_any (w.heap.size + 1) q v (cat 1 [X0, X1] 0) 1 X0 _ (by decide) (by have := cat_len_le 1 [X0, X1] 0; omega) hM.out.st).mono ?_
      rintro e' w4 ⟨rfl, hb4, v4, h4⟩
      have M4 : Hid (MS w w4 (w.heap.size + 1) q w.heap.size #[.int .i64 ver, .bool r, .bool e, .bool m, .int .i64 op, .int .i64 seq, .int .i64 sta, .int .i64 ass, .int .i64 off, .slice da Dn dc, .int .i64 key, .slice ma mn mc] v4 (cat 1 [X0, X1] 1)) := hM.out.step hb4 (by simpa [cat, List.append_assoc] using h4) (by omega) (by omega)
      clear hb4 h4
      go_wp2
      exact ⟨⟨1, v4, rfl, by omega, by omega, M4⟩, by simp [intOf]⟩
    · go_wp2_with fail
      refine (number_any (w.heap.size + 1) q v (cat 1 [X0, X1] 1) 1 X1 _ (by decide) (by have := cat_len_le 1 [X0, X1] 1; omega) hM.out.st).mono ?_
      rintro e' w4 ⟨rfl, hb4, v4, h4⟩
      have M4 : Hid (MS w w4 (w.heap.size + 1) q w.heap.size #[.int .i64 ver, .bool r, .bool e, .bool m, .int .i64 op, .int .i64 seq, .int .i64 sta, .int .i64 ass, .int .i64 off, .slice da Dn dc, .int .i64 key, .slice ma mn mc] v4 (cat 1 [X0, X1] 2)) := hM.out.step hb4 (by simpa [cat, List.append_assoc] using h4) (by omega) (by omega)
      clear hb4 h4
      go_wp2
      exact ⟨⟨2, v4, rfl, by omega, by omega, M4⟩, by simp [intOf]⟩
    · obtain ⟨c0, c1, c2, c3, c4, c5, c6, c7, c8, c9, c10, c11⟩ := hM.out.ck.c12
      have M5 : Hid (MS w wr (w.heap.size + 1) q w.heap.size #[.int .i64 ver, .bool r, .bool e, .bool m, .int .i64 op, .int .i64 seq, .int .i64 sta, .int .i64 ass, .int .i64 off, .slice da Dn dc, .int .i64 key, .slice ma mn mc] v (cat 1 [X0, X1] 2 ++ cat 2 [seq, sta, ass, off, (Dn : Int)] 0)) := ⟨by simpa [cat] using hM.out.st, hM.out.bel, hM.out.ck⟩
      clear hM
      go_wp2
      clear c0 c1 c2 c3 c4 c5 c6 c7 c8 c9 c10 c11
      go_loopw [45] (fun i wr => ∃ (k : Int) (v : Value), i = .int .i64 k ∧ 0 ≤ k ∧ k ≤ 5 ∧ Hid (MS w wr (w.heap.size + 1) q w.heap.size #[.int .i64 ver, .bool r, .bool e, .bool m, .int .i64 op, .int .i64 seq, .int .i64 sta, .int .i64 ass, .int .i64 off, .slice da Dn dc, .int .i64 key, .slice ma mn mc] v (cat 1 [X0, X1] 2 ++ cat 2 [seq, sta, ass, off, (Dn : Int)] k.toNat))) (fun i _ => (5 - intOf i).toNat)
      case atStart => exact ⟨0, _, rfl, by omega, by omega, M5⟩
      case round =>
        clear M5
        obtain ⟨k, v, rfl, k0, k1, hM⟩ := hrel
        have hk : k = 0 ∨ k = 1 ∨ k = 2 ∨ k = 3 ∨ k = 4 ∨ k = 5 := by omega
        clear k0 k1
        rcases hk with rfl | rfl | rfl | rfl | rfl | rfl
        · go_wp2_with fail
          refine (number_any (w.heap.size + 1) q v (cat 1 [X0, X1] 2 ++ cat 2 [seq, sta, ass, off, (Dn : Int)] 0) 2 seq _ (by decide) (by have := cat_len_le 2 [seq, sta, ass, off, (Dn : Int)] 0; have l2 := cat_len_le 1 [X0, X1] 2; rw [List.length_append]; omega) hM.out.st).mono ?_
          rintro e' w4 ⟨rfl, hb4, v4, h4⟩
          have M4 : Hid (MS w w4 (w.heap.size + 1) q w.heap.size #[.int .i64 ver, .bool r, .bool e, .bool m, .int .i64 op, .int .i64 seq, .int .i64 sta, .int .i64 ass, .int .i64 off, .slice da Dn dc, .int .i64 key, .slice ma mn mc] v4 (cat 1 [X0, X1] 2 ++ cat 2 [seq, sta, ass, off, (Dn : Int)] 1)) := hM.out.step hb4 (by simpa [cat, List.append_assoc] using h4) (by omega) (by omega)
          clear hb4 h4
          go_wp2
          exact ⟨⟨1, v4, rfl, by omega, by omega, M4⟩, by simp [intOf]⟩
        · go_wp2_with fail
          refine (number_any (w.heap.size + 1) q v (cat 1 [X0, X1] 2 ++ cat 2 [seq, sta, ass, off, (Dn : Int)] 1) 2 sta _ (by decide) (by have := cat_len_le 2 [seq, sta, ass, off, (Dn : Int)] 1; have l2 := cat_len_le 1 [X0, X1] 2; rw [List.length_append]; omega) hM.out.st).mono ?_
          rintro e' w4 ⟨rfl, hb4, v4, h4⟩
          have M4 : Hid (MS w w4 (w.heap.size + 1) q w.heap.size #[.int .i64 ver, .bool r, .bool e, .bool m, .int .i64 op, .int .i64 seq, .int .i64 sta, .int .i64 ass, .int .i64 off, .slice da Dn dc, .int .i64 key, .slice ma mn mc] v4 (cat 1 [X0, X1] 2 ++ cat 2 [seq, sta, ass, off, (Dn : Int)] 2)) := hM.out.step hb4 (by simpa [cat, List.append_assoc] using h4) (by omega) (by omega)
          clear hb4 h4
          go_wp2
          exact ⟨⟨2, v4, rfl, by omega, by omega, M4⟩, by simp [intOf]⟩
        · go_wp2_with fail
          refine (number_any (w.heap.size + 1) q v (cat 1 [X0, X1] 2 ++ cat 2 [seq, sta, ass, off, (Dn : Int)] 2) 2 ass _ (by decide) (by have := cat_len_le 2 [seq, sta, ass, off, (Dn : Int)] 2; have l2 := cat_len_le 1 [X0, X1] 2; rw [List.length_append]; omega) hM.out.st).mono ?_
          rintro e' w4 ⟨rfl, hb4, v4, h4⟩
          have M4 : Hid (MS w w4 (w.heap.size + 1) q w.heap.size #[.int .i64 ver, .bool r, .bool e, .bool m, .int .i64 op, .int .i64 seq, .int .i64 sta, .int .i64 ass, .int .i64 off, .slice da Dn dc, .int .i64 key, .slice ma mn mc] v4 (cat 1 [X0, X1] 2 ++ cat 2 [seq, sta, ass, off, (Dn : Int)] 3)) := hM.out.step hb4 (by simpa [cat, List.append_assoc] using h4) (by omega) (by omega)
          clear hb4 h4
          go_wp2
          exact ⟨⟨3, v4, rfl, by omega, by omega, M4⟩, by simp [intOf]⟩
        · go_wp2_with fail
          refine (number_any (w.heap.size + 1) q v (cat 1 [X0, X1] 2 ++ cat 2 [seq, sta, ass, off, (Dn : Int)] 3) 2 off _ (by decide) (by have := cat_len_le 2 [seq, sta, ass, off, (Dn : Int)] 3; have l2 := cat_len_le 1 [X0, X1] 2; rw [List.length_append]; omega) hM.out.st).mono ?_
          rintro e' w4 ⟨rfl, hb4, v4, h4⟩
          have M4 : Hid (MS w w4 (w.heap.size + 1) q w.heap.size #[.int .i64 ver, .bool r, .bool e, .bool m, .int .i64 op, .int .i64 seq, .int .i64 sta, .int .i64 ass, .int .i64 off, .slice da Dn dc, .int .i64 key, .slice ma mn mc] v4 (cat 1 [X0, X1] 2 ++ cat 2 [seq, sta, ass, off, (Dn : Int)] 4)) := hM.out.step hb4 (by simpa [cat, List.append_assoc] using h4) (by omega) (by omega)
          clear hb4 h4
          go_wp2
          exact ⟨⟨4, v4, rfl, by omega, by omega, M4⟩, by simp [intOf]⟩
        · go_wp2_with fail
          refine (number_any (w.heap.size + 1) q v (cat 1 [X0, X1] 2 ++ cat 2 [seq, sta, ass, off, (Dn : Int)] 4) 2 (Dn : Int) _ (by decide) (by have := cat_len_le 2 [seq, sta, ass, off, (Dn : Int)] 4; have l2 := cat_len_le 1 [X0, X1] 2; rw [List.length_append]; omega) hM.out.st).mono ?_
          rintro e' w4 ⟨rfl, hb4, v4, h4⟩
          have M4 : Hid (MS w w4 (w.heap.size + 1) q w.heap.size #[.int .i64 ver, .bool r, .bool e, .bool m, .int .i64 op, .int .i64 seq, .int .i64 sta, .int .i64 ass, .int .i64 off, .slice da Dn dc, .int .i64 key, .slice ma mn mc] v4 (cat 1 [X0, X1] 2 ++ cat 2 [seq, sta, ass, off, (Dn : Int)] 5)) := hM.out.step hb4 (by simpa [cat, List.append_assoc] using h4) (by omega) (by omega)
          clear hb4 h4
          go_wp2
          exact ⟨⟨5, v4, rfl, by omega, by omega, M4⟩, by simp [intOf]⟩
        · have eH : cmH ver r e m op seq sta ass off Dn = cat 1 [X0, X1] 2 ++ cat 2 [seq, sta, ass, off, (Dn : Int)] 5 := by
            unfold cmH
            rw [HX.out.1, HX.out.2, HFG.out]
            simp [cat]
          have M6 : Hid (MS w wr (w.heap.size + 1) q w.heap.size #[.int .i64 ver, .bool r, .bool e, .bool m, .int .i64 op, .int .i64 seq, .int .i64 sta, .int .i64 ass, .int .i64 off, .slice da Dn dc, .int .i64 key, .slice ma mn mc] v (cmH ver r e m op seq sta ass off Dn)) := by rw [eH]; exact hM
          have lH : Hid ((cmH ver r e m op seq sta ass off Dn).length ≤ 12) := by
            show _ ≤ _
            rw [eH, List.length_append]
            have := cat_len_le 1 [X0, X1] 2
            have := cat_len_le 2 [seq, sta, ass, off, (Dn : Int)] 5
            omega
          clear hM eH
          obtain ⟨c0, c1, c2, c3, c4, c5, c6, c7, c8, c9, c10, c11⟩ := M6.out.ck.c12
          go_wp2_with fail
          refine (wbytes_any (w.heap.size + 1) q w.heap.size v _ (cmH ver r e m op seq sta ass off Dn) data _ (by have := lH.out; have := HDn.out; omega) M6.out.st (HD.out.below M6.out.bel (Nat.le_refl _))).mono ?_
          rintro e' w5 ⟨rfl, hb5, v5, h5⟩
          have M7 : Hid (MS w w5 (w.heap.size + 1) q w.heap.size #[.int .i64 ver, .bool r, .bool e, .bool m, .int .i64 op, .int .i64 seq, .int .i64 sta, .int .i64 ass, .int .i64 off, .slice da Dn dc, .int .i64 key, .slice ma mn mc] v5 (cmH ver r e m op seq sta ass off Dn ++ data)) := M6.out.step hb5 h5 (by omega) (by omega)
          clear hb5 h5 M6 c0 c1 c2 c3 c4 c5 c6 c7 c8 c9 c10 c11
          have c9 : w5.cell? ⟨w.heap.size, 9, none⟩ = some (.slice da Dn dc) := M7.out.ck.at_ 9
          obtain ⟨F, hF⟩ : ∃ F, F = fil Dn := ⟨_, rfl⟩
          have HFi : Hid (∀ (w : World), Calls Try.prog 59 #[.int .i64 (Dn : Int)] w fun e' w' => e' = .returned (.int .i64 F) ∧ w' = w) := by
            intro w; rw [hF]; exact filled_any Dn w (by omega) (by omega)
          obtain ⟨K, hK⟩ : ∃ K : Nat, K = (fil Dn - Dn).toNat := ⟨_, rfl⟩
          have hK2 : (K : Int) ≤ 3 := by omega
          have eK : IntKind.i64.wrap (F - (Dn : Int)) = (K : Int) := by simp only [IntKind.wrap_i64]; omega
          have HK : Hid (K = (fil Dn - Dn).toNat) := hK
          clear hF hK hf
          go_wp2_with fail
          go_region_held3 (fun w' => w'.cell? ⟨w.heap.size, 9, none⟩ = some (.slice da Dn dc)) (first | exact c9 | exact e9 | go_keep) (first | (go_at_call 59; refine (HFi.out _).mono ?_; rintro e' w6 ⟨rfl, rfl⟩) | (go_at_call 34; refine (number_any (w.heap.size + 1) q v5 (cmH ver r e m op seq sta ass off Dn ++ data) K 0 _ (by omega) (by have := lH.out; have := HDn.out; rw [List.length_append]; omega) M7.out.st.drew).mono ?_; rintro e' w6 ⟨rfl, hb6, v6, h6⟩; have M8 : Hid (MS w w6 (w.heap.size + 1) q w.heap.size #[.int .i64 ver, .bool r, .bool e, .bool m, .int .i64 op, .int .i64 seq, .int .i64 sta, .int .i64 ass, .int .i64 off, .slice da Dn dc, .int .i64 key, .slice ma mn mc] v6 (cmH ver r e m op seq sta ass off Dn ++ data ++ be K 0)) := (M7.out.step (undrew hb6) h6 (by omega) (by omega)); have e9 : w6.cell? ⟨w.heap.size, 9, none⟩ = some (.slice da Dn dc) := M8.out.ck.at_ 9; clear hb6 h6))
          have a0 := M8.out.st.c
          go_wp2
          go_ret2
          refine ⟨v6, rfl, M8.out.bel, ?_⟩
          have := M8.out.st.own.mono (Nat.le_succ w.heap.size)
          unfold cmB
          rw [← HDn.out, ← HK.out]
          exact this
set_option maxHeartbeats 1000000 in
theorem controlMessage_err (ver : Int) (r e m : Bool) (op seq sta ass off : Int) (da : Option Addr) (Dn dc : Nat) (key : Int) (ma : Option Addr) (mn mc : Nat) (w : World) (hdn : (Dn : Int) ≤ 140737488355327) (hmn : (mn : Int) ≤ 140737488355327) (hC : ccE ver op seq sta ass off key Dn mn ≠ 0) :
    Calls Try.prog 28 #[ctV ver r e m op seq sta ass off (.slice da Dn dc) key (.slice ma mn mc)] w fun e' w' => e' = .returned (.tuple #[.slice none 0 0, .int .i64 (ccE ver op seq sta ass off key Dn mn)]) ∧ Below w.heap.size w w' := by
  have HCk : Hid (∀ (w : World), Calls Try.prog 30 #[.agg #[.int .i64 ver, .bool r, .bool e, .bool m, .int .i64 op, .int .i64 seq, .int .i64 sta, .int .i64 ass, .int .i64 off, .slice da Dn dc, .int .i64 key, .slice ma mn mc]] w fun e' w' => e' = .returned (.int .i64 (ccE ver op seq sta ass off key Dn mn)) ∧ Below w.heap.size w w') := fun w => checkControl_any ver r e m op seq sta ass off da Dn dc key ma mn mc w hdn hmn
  obtain ⟨E, hE⟩ : ∃ E, E = ccE ver op seq sta ass off key Dn mn := ⟨_, rfl⟩
  rw [← hE] at HCk hC ⊢
  have hb : (E != 0) = true := by rw [bne_iff_ne]; exact hC
  clear hE hC
  unfold ctV
  go_enter Try.func28, Try.ntmps28
  go_wp2_with fail
  refine (HCk.out _).mono ?_
  rintro e' w1 ⟨rfl, hb1⟩
  have HB : Hid (Below w.heap.size w w1) := Below.trans (by repeat' (first | with_reducible exact Below.refl _ _ | with_reducible refine Below.setCell ?_ (by first | (simp; done) | (simp; omega) | omega) _ | with_reducible refine below_drewN ?_ _ | with_reducible refine Below.drew ?_ | with_reducible refine Below.alloc ?_ (by first | (simp; done) | (simp; omega) | omega) _)) (hb1.mono (by simp))
  clear hb1
  go_wp2_with fail
  go_ret2
  exact ⟨rfl, HB.out⟩
/-- a packet of control as bytes -/
def ecB (ver : Int) (r e m : Bool) (op seq sta ass off : Int) (data : List Int) (key : Int) (mac : List Int) : List Int := cmB ver r e m op seq sta ass off data ++ dg key mac
theorem cmH_len (ver : Int) (r e m : Bool) (op seq sta ass off : Int) (dn : Int) : (cmH ver r e m op seq sta ass off dn).length = 12 := by unfold cmH; simp [be_len]
theorem cmB_len (ver : Int) (r e m : Bool) (op seq sta ass off : Int) (data : List Int) : ((cmB ver r e m op seq sta ass off data).length : Int) = 12 + fil data.length := by
  unfold cmB
  rw [List.length_append, List.length_append, cmH_len, be_len]
  have := fil_le data.length
  omega
set_option maxHeartbeats 2000000 in
theorem encodeControl_ok (ver : Int) (r e m : Bool) (op seq sta ass off : Int) (dv mv : Value) (data mac : List Int) (key : Int) (w : World) (hd : Sv w.heap.size w dv data) (hm : Sv w.heap.size w mv mac) (hC : ccE ver op seq sta ass off key data.length mac.length = 0) :
    Calls Try.prog 26 #[ctV ver r e m op seq sta ass off dv key mv] w fun e' w' => ∃ v, e' = .returned (.tuple #[v, .int .i64 0]) ∧ Below w.heap.size w w' ∧ Own w' w.heap.size v (ecB ver r e m op seq sta ass off data key mac) := by
  obtain ⟨_, _, _, _, _, _, hdf, hsz⟩ := cc_ok hC
  obtain ⟨k0, k1, hml, _⟩ := df_ok hdf
  have hf := fil_le data.length
  have hdz := dsz_le key mac.length
  have HD : Hid (Sv w.heap.size w dv data) := hd
  have HM : Hid (Sv w.heap.size w mv mac) := hm
  obtain ⟨da, dc, rfl, hd1, hd2, hd3, hd4⟩ := hd
  obtain ⟨ma, mc, rfl, hm1, hm2, hm3, hm4⟩ := hm
  clear hd1 hd2 hd3 hd4 hm1 hm2 hm3 hm4
  obtain ⟨Dn, hDn⟩ : ∃ Dn : Nat, Dn = data.length := ⟨_, rfl⟩
  obtain ⟨mn, hmn⟩ : ∃ mn : Nat, mn = mac.length := ⟨_, rfl⟩
  have HCM : Hid (∀ (w' : World), Below w.heap.size w w' → w.heap.size ≤ w'.heap.size → Calls Try.prog 28 #[.agg #[.int .i64 ver, .bool r, .bool e, .bool m, .int .i64 op, .int .i64 seq, .int .i64 sta, .int .i64 ass, .int .i64 off, .slice da Dn dc, .int .i64 key, .slice ma mn mc]] w' fun e' w2 => ∃ v, e' = .returned (.tuple #[v, .int .i64 0]) ∧ Below w'.heap.size w' w2 ∧ Own w2 w'.heap.size v (cmB ver r e m op seq sta ass off data)) := by
    intro w' hb hs
    have := controlMessage_ok ver r e m op seq sta ass off (.slice da data.length dc) data key ma mac.length mc w' (by omega) ((HD.out.below hb (Nat.le_refl _)).mono hs) hC
    rw [hDn, hmn]
    exact this
  rw [← hDn] at HD ⊢
  rw [← hmn] at HM ⊢
  obtain ⟨CM, hCM⟩ : ∃ CM, CM = cmB ver r e m op seq sta ass off data := ⟨_, rfl⟩
  have lCM : (CM.length : Int) ≤ 512 := by rw [hCM, cmB_len]; omega
  unfold ecB
  rw [← hCM] at HCM ⊢
  have HM2 : Hid (mac.length ≤ 20) := hml
  clear hDn hmn hCM hC hdf hsz hf hdz hml
  unfold ctV
  go_enter Try.func26, Try.ntmps26
  go_wp2_with fail
  refine (HCM.out _ (by repeat' (first | with_reducible exact Below.refl _ _ | with_reducible refine Below.setCell ?_ (by first | (simp; done) | (simp; omega) | omega) _ | with_reducible refine below_drewN ?_ _ | with_reducible refine Below.drew ?_ | with_reducible refine Below.alloc ?_ (by first | (simp; done) | (simp; omega) | omega) _)) (by simp)).mono ?_
  rintro e' w1 ⟨v1, rfl, hb1, ho1⟩
  have K1 : Hid (Ck w.heap.size w1 #[.int .i64 ver, .bool r, .bool e, .bool m, .int .i64 op, .int .i64 seq, .int .i64 sta, .int .i64 ass, .int .i64 off, .slice da Dn dc, .int .i64 key, .slice ma mn mc]) := (Ck.new w _ 48).below hb1 (by simp)
  have B1 : Hid (Below w.heap.size w w1) := Below.trans (by repeat' (first | with_reducible exact Below.refl _ _ | with_reducible refine Below.setCell ?_ (by first | (simp; done) | (simp; omega) | omega) _ | with_reducible refine below_drewN ?_ _ | with_reducible refine Below.drew ?_ | with_reducible refine Below.alloc ?_ (by first | (simp; done) | (simp; omega) | omega) _)) (hb1.mono (by simp))
  have sz1 : w.heap.size + 1 ≤ w1.heap.size := by have := hb1.size; simpa using this
  have O1 : Hid (Own w1 (w.heap.size + 1) v1 CM) := ho1.mono (by simp)
  obtain ⟨ao, cap, hv1, _, _, hlt, _, _⟩ := ho1.rs
  clear hb1 ho1
  subst hv1
  have K2 : Hid (Ck w.heap.size (w1.alloc (.cells #[.slice ao CM.length cap] 56)) #[.int .i64 ver, .bool r, .bool e, .bool m, .int .i64 op, .int .i64 seq, .int .i64 sta, .int .i64 ass, .int .i64 off, .slice da Dn dc, .int .i64 key, .slice ma mn mc]) := K1.out.below ((Below.refl w1.heap.size w1).alloc (Nat.le_refl _) _) sz1
  have R2 : Hid (Wr (w.heap.size + 1) w1.heap.size (w1.alloc (.cells #[.slice ao CM.length cap] 56)) (.slice ao CM.length cap) CM) := by
    refine ⟨O1.out.below ((Below.refl w1.heap.size w1).alloc (Nat.le_refl _) _) (Nat.le_refl _), by omega, by simp, ?_, by simp, by simp⟩
    cases ao with
    | none => simp [Value.ownBlock]
    | some ad => have := (hlt ad rfl).2; simp [Value.ownBlock]; omega
  clear K1 O1 hlt
  obtain ⟨c0, c1, c2, c3, c4, c5, c6, c7, c8, c9, c10, c11⟩ := K2.out.c12
  obtain ⟨CL, hCL⟩ : ∃ CL, CL = CM.length := ⟨_, rfl⟩
  rw [← hCL] at R2 K2 c0 c1 c2 c3 c4 c5 c6 c7 c8 c9 c10 c11 lCM ⊢
  have HCL : Hid (CL = CM.length) := hCL
  clear hCL
  go_wp2_with fail
  refine (digest_any (w.heap.size + 1) w1.heap.size _ _ CM mac key _ k0 k1 (by have := HCL.out; have := HM2.out; omega) R2.out (((HM.out.below B1.out (Nat.le_refl _)).below ((Below.refl w1.heap.size w1).alloc (Nat.le_refl _) _) (by omega)).mono (by omega))).mono ?_
  rintro e' w2 ⟨rfl, hb2, v2, h2⟩
  have B2 : Hid (Below w.heap.size w w2) := (B1.out.alloc (by omega) _).trans (hb2.mono (by omega))
  have W2 : Hid (Wr (w.heap.size + 1) w1.heap.size w2 v2 (CM ++ dg key mac)) := h2
  have a0 := h2.c
  clear hb2 h2 c0 c1 c2 c3 c4 c5 c6 c7 c8 c9 c10 c11 K2 R2
  go_wp2
  go_ret2
  exact ⟨v2, rfl, B2.out, W2.out.own.mono (Nat.le_succ _)⟩
set_option maxHeartbeats 1000000 in
theorem encodeControl_err (ver : Int) (r e m : Bool) (op seq sta ass off : Int) (da : Option Addr) (Dn dc : Nat) (key : Int) (ma : Option Addr) (mn mc : Nat) (w : World) (hdn : (Dn : Int) ≤ 140737488355327) (hmn : (mn : Int) ≤ 140737488355327) (hC : ccE ver op seq sta ass off key Dn mn ≠ 0) :
    Calls Try.prog 26 #[ctV ver r e m op seq sta ass off (.slice da Dn dc) key (.slice ma mn mc)] w fun e' w' => e' = .returned (.tuple #[.slice none 0 0, .int .i64 (ccE ver op seq sta ass off key Dn mn)]) ∧ Below w.heap.size w w' := by
  have HCk : Hid (∀ (w : World), Calls Try.prog 28 #[.agg #[.int .i64 ver, .bool r, .bool e, .bool m, .int .i64 op, .int .i64 seq, .int .i64 sta, .int .i64 ass, .int .i64 off, .slice da Dn dc, .int .i64 key, .slice ma mn mc]] w fun e' w' => e' = .returned (.tuple #[.slice none 0 0, .int .i64 (ccE ver op seq sta ass off key Dn mn)]) ∧ Below w.heap.size w w') := fun w => controlMessage_err ver r e m op seq sta ass off da Dn dc key ma mn mc w hdn hmn hC
  obtain ⟨E, hE⟩ : ∃ E, E = ccE ver op seq sta ass off key Dn mn := ⟨_, rfl⟩
  rw [← hE] at HCk hC ⊢
  have hb : (E != 0) = true := by rw [bne_iff_ne]; exact hC
  clear hE hC
  unfold ctV
  go_enter Try.func26, Try.ntmps26
  go_wp2_with fail
  refine (HCk.out _).mono ?_
  rintro e' w1 ⟨rfl, hb1⟩
  have HB : Hid (Below w.heap.size w w1) := Below.trans (by repeat' (first | with_reducible exact Below.refl _ _ | with_reducible refine Below.setCell ?_ (by first | (simp; done) | (simp; omega) | omega) _ | with_reducible refine below_drewN ?_ _ | with_reducible refine Below.drew ?_ | with_reducible refine Below.alloc ?_ (by first | (simp; done) | (simp; omega) | omega) _)) (hb1.mono (by simp))
  clear hb1
  go_wp2_with fail
  go_ret2
  exact ⟨rfl, HB.out⟩
end Go.Proofs.Ythimekdpclmddaa
