/- What the writer's header of package wire does. -/
import Derived.Test.YtdobghhjlfffpaaXE
namespace Go.Proofs.Ytdobghhjlfffpaa
open Go.RowKit
theorem ret_u32 {a b : Int} (h : a = b) : Ending.returned (.int .u32 a) = .returned (.int .u32 b) := by rw [h]
/-- the short form of a span -/
def sh (d : Int) : Int := if d ≤ 0 then 0 else min ((d - 1) / 65536 + 1) 4294967295
theorem sh_bd (d : Int) : 0 ≤ sh d ∧ sh d ≤ 4294967295 := by unfold sh; split <;> omega
set_option maxHeartbeats 400000 in
theorem toShort_any (d : Int) (w : World) (d1 : d ≤ 9223372036854775807) :
    Calls Try.prog 47 #[.int .i64 d] w fun e w' => e = .returned (.int .u32 (sh d)) ∧ w' = w := by
  by_cases h : d ≤ 0
  · go_enter Try.func47, Try.ntmps47
    go_wp2
    go_ret
    exact ⟨ret_u32 (by unfold sh; rw [if_pos h]), rfl⟩
  · have h' : 0 < d := by omega
    go_enter Try.func47, Try.ntmps47
    go_wp2
    all_goals
      go_ret
      refine ⟨ret_u32 ?_, rfl⟩
      have hs : sh d = min ((d - 1) / 65536 + 1) 4294967295 := by unfold sh; rw [if_neg (by omega)]
      first
      | (rw [hs]; done)
      | (rw [hs]; omega)
      | (rw [hs]; simp only [IntKind.wrap_u32]; omega)
      | (rw [hs]; split at * <;> omega)
/-- a packet's header as bytes -/
def hdB (h : Hd) : List Int := cat 1 [64 * h.leap + 8 * h.ver + h.mode, h.str, h.poll % 18446744073709551616, h.prec % 18446744073709551616] 4 ++ cat 4 [sh h.del, sh h.dis, h.rid] 3 ++ cat 8 [h.t0, h.t1, h.t2, h.t3] 4
/-- the state of the walk -/
structure HS (vi : Value) (B q : Nat) (w wr : World) (cs : Array Value) (v : Value) (bs : List Int) : Prop where
  st : Wr B q wr v bs
  bel : Below B w wr
  ck : Ck w.heap.size wr cs
  ne : some w.heap.size ≠ v.ownBlock
  fr : Fr q vi v w wr
theorem HS.step {B q : Nat} {w wr w' : World} {cs : Array Value} {v v' : Value} {bs bs' : List Int} {vi : Value} (h : HS vi B q w wr cs v bs) (hb : Below B wr w') (hw : Wr B q w' v' bs') (hf : Fr q v v' wr w') (hq : q < w.heap.size) : HS vi B q w w' cs v' bs' := by
  refine ⟨hw, h.bel.trans hb, h.ck.fr hf (by omega) h.ne, ?_, h.fr.trans hf⟩
  rcases hf.own with e | ⟨g, e, hg⟩
  · rw [e]; exact h.ne
  · rw [e]; intro x; injection x with x; have := h.ck.lt; omega
theorem HS.drewN {vi : Value} {B q : Nat} {w wr : World} {cs : Array Value} {v : Value} {bs : List Int} (h : HS vi B q w wr cs v bs) (n : Nat) : HS vi B q w (wr.drewN n) cs v bs := by
  induction n with
  | zero => exact h
  | succ n ih => exact ⟨ih.st.drew, ih.bel.drew, ih.ck.drew, ih.ne, ⟨ih.fr.size, ih.fr.block, ih.fr.own⟩⟩
theorem hf_ok {h : Hd} (hh : hfB h = true) : (-128 ≤ h.poll ∧ h.poll ≤ 127) ∧ (-128 ≤ h.prec ∧ h.prec ≤ 127) ∧ (0 ≤ h.del ∧ h.del ≤ 281474976645120) ∧ (0 ≤ h.dis ∧ h.dis ≤ 281474976645120) ∧ (0 ≤ h.leap ∧ h.leap ≤ 3) ∧ (1 ≤ h.ver ∧ h.ver ≤ 4) ∧ (1 ≤ h.mode ∧ h.mode ≤ 5) ∧ (0 ≤ h.str ∧ h.str ≤ 255) := by
  unfold hfB at hh
  simp only [Bool.and_eq_true, wiB_iff] at hh
  obtain ⟨⟨⟨⟨⟨⟨⟨a, b⟩, c⟩, d⟩, e⟩, f⟩, g⟩, i⟩ := hh
  exact ⟨a, b, c, d, e, f, g, i⟩
set_option maxRecDepth 4000 in
set_option maxHeartbeats 8000000 in
theorem header_any (B q : Nat) (vi : Value) (bs : List Int) (h : Hd) (ea : Option Addr) (en ec : Nat) (key : Int) (nak : Bool) (ma : Option Addr) (mn mc : Nat) (w : World) (hW : Wr B q w vi bs) (hbl : bs.length ≤ 10000) (hh : hfB h = true) (r0 : 0 ≤ h.rid) (r1 : h.rid < 4294967296) :
    Calls Try.prog 24 #[.pointer (some ⟨q, 0, none⟩), pkV h (.slice ea en ec) key nak (.slice ma mn mc)] w fun e' w' => e' = .returned (.tuple #[]) ∧ Below B w w' ∧ ∃ v', Wr B q w' v' (bs ++ hdB h) ∧ Fr q vi v' w w' := by
  obtain ⟨⟨p0, p1⟩, ⟨pr0, pr1⟩, ⟨dl0, dl1⟩, ⟨ds0, ds1⟩, ⟨le0, le1⟩, ⟨ve0, ve1⟩, ⟨mo0, mo1⟩, ⟨st0, st1⟩⟩ := hf_ok hh
  have HW : Hid (Wr B q w vi bs) := hW
  have hqw : Hid (q < w.heap.size) := hW.hq
  have HBL : Hid (bs.length ≤ 10000) := hbl
  have hne : Hid (some w.heap.size ≠ vi.ownBlock) := fun e => by have := (hW.own.lt _ e.symm).2; omega
  obtain ⟨X0, hX0⟩ : ∃ X : Int, X = 64 * h.leap + 8 * h.ver + h.mode := ⟨_, rfl⟩
  obtain ⟨X2, hX2⟩ : ∃ X : Int, X = h.poll % 18446744073709551616 := ⟨_, rfl⟩
  obtain ⟨X3, hX3⟩ : ∃ X : Int, X = h.prec % 18446744073709551616 := ⟨_, rfl⟩
  obtain ⟨Y, hY⟩ : ∃ X : Int, X = 8 * h.leap + h.ver := ⟨_, rfl⟩
  have e1 : IntKind.i64.wrap (h.leap * 64) = 64 * h.leap := by simp only [IntKind.wrap_i64]; omega
  have e2 : IntKind.i64.wrap (h.ver * 8) = 8 * h.ver := by simp only [IntKind.wrap_i64]; omega
  have e3 : bits .or .i64 (64 * h.leap) (8 * h.ver) = 8 * Y := by rw [i64_or_leap h.leap h.ver le0 (by omega) (by omega) (by omega), hY]; omega
  have e4 : bits .or .i64 (8 * Y) h.mode = X0 := by rw [i64_or_mode Y h.mode (by omega) (by omega) (by omega) (by omega), hY, hX0]; omega
  have e5 : IntKind.u64.wrap h.poll = X2 := by rw [hX2]; simp only [IntKind.wrap_u64]
  have e6 : IntKind.u64.wrap h.prec = X3 := by rw [hX3]; simp only [IntKind.wrap_u64]
  have x00 : 0 ≤ X0 := by omega
  have x01 : X0 < 256 := by omega
  have d10 := (sh_bd h.del).1
  have d11 := (sh_bd h.del).2
  have d20 := (sh_bd h.dis).1
  have d21 := (sh_bd h.dis).2
  have HR : Hid (hdB h = cat 1 [X0, h.str, X2, X3] 4 ++ cat 4 [sh h.del, sh h.dis, h.rid] 3 ++ cat 8 [h.t0, h.t1, h.t2, h.t3] 4) := by show _ = _; unfold hdB; rw [hX0, hX2, hX3]
  clear hX0 hX2 hX3 hY hW hbl hh
  have i40t : ∀ (x y z u : Value) w, (Instr.index 77 (.agg #[x, y, z, u]) (.int .i64 0)).run Try.prog w = .ok x w := fun _ _ _ _ _ => by kernel_rfl
  have i41t : ∀ (x y z u : Value) w, (Instr.index 77 (.agg #[x, y, z, u]) (.int .i64 1)).run Try.prog w = .ok y w := fun _ _ _ _ _ => by kernel_rfl
  have i42t : ∀ (x y z u : Value) w, (Instr.index 77 (.agg #[x, y, z, u]) (.int .i64 2)).run Try.prog w = .ok z w := fun _ _ _ _ _ => by kernel_rfl
  have i43t : ∀ (x y z u : Value) w, (Instr.index 77 (.agg #[x, y, z, u]) (.int .i64 3)).run Try.prog w = .ok u w := fun _ _ _ _ _ => by kernel_rfl
  have i302 : ∀ (x y z : Value) w, (Instr.index 78 (.agg #[x, y, z]) (.int .i64 0)).run Try.prog w = .ok x w := fun _ _ _ _ => by kernel_rfl
  have i312 : ∀ (x y z : Value) w, (Instr.index 78 (.agg #[x, y, z]) (.int .i64 1)).run Try.prog w = .ok y w := fun _ _ _ _ => by kernel_rfl
  have i322 : ∀ (x y z : Value) w, (Instr.index 78 (.agg #[x, y, z]) (.int .i64 2)).run Try.prog w = .ok z w := fun _ _ _ _ => by kernel_rfl
  have i40p : ∀ (x y z u : Value) w, (Instr.index 79 (.agg #[x, y, z, u]) (.int .i64 0)).run Try.prog w = .ok x w := fun _ _ _ _ _ => by kernel_rfl
  have i41p : ∀ (x y z u : Value) w, (Instr.index 79 (.agg #[x, y, z, u]) (.int .i64 1)).run Try.prog w = .ok y w := fun _ _ _ _ _ => by kernel_rfl
  have i42p : ∀ (x y z u : Value) w, (Instr.index 79 (.agg #[x, y, z, u]) (.int .i64 2)).run Try.prog w = .ok z w := fun _ _ _ _ _ => by kernel_rfl
  have i43p : ∀ (x y z u : Value) w, (Instr.index 79 (.agg #[x, y, z, u]) (.int .i64 3)).run Try.prog w = .ok u w := fun _ _ _ _ _ => by kernel_rfl
  unfold pkV
  have M0 : Hid (HS vi B q w (w.alloc (.cells #[.int .i64 h.leap, .int .i64 h.ver, .int .i64 h.mode, .int .i64 h.str, .int .i64 h.poll, .int .i64 h.prec, .int .i64 h.del, .int .i64 h.dis, .int .u32 h.rid, .int .u64 h.t0, .int .u64 h.t1, .int .u64 h.t2, .int .u64 h.t3, .slice ea en ec, .int .i64 key, .bool nak, .slice ma mn mc] 29)) #[.int .i64 h.leap, .int .i64 h.ver, .int .i64 h.mode, .int .i64 h.str, .int .i64 h.poll, .int .i64 h.prec, .int .i64 h.del, .int .i64 h.dis, .int .u32 h.rid, .int .u64 h.t0, .int .u64 h.t1, .int .u64 h.t2, .int .u64 h.t3, .slice ea en ec, .int .i64 key, .bool nak, .slice ma mn mc] vi (bs ++ cat 1 [X0, h.str, X2, X3] 0)) := ⟨by simpa [cat] using HW.out.alloc _, (Below.refl _ _).alloc (Nat.le_trans HW.out.hB (Nat.le_of_lt HW.out.hq)) _, Ck.new _ _ _, hne.out, ⟨by simp, fun k hk _ _ => Below.heap_alloc _ _ _ hk, .inl rfl⟩⟩
  go_enter Try.func24, Try.ntmps24
  go_wp2
  go_loopw [29] (fun i wr => ∃ (k : Int) (v : Value), i = .int .i64 k ∧ 0 ≤ k ∧ k ≤ 4 ∧ Hid (HS vi B q w wr #[.int .i64 h.leap, .int .i64 h.ver, .int .i64 h.mode, .int .i64 h.str, .int .i64 h.poll, .int .i64 h.prec, .int .i64 h.del, .int .i64 h.dis, .int .u32 h.rid, .int .u64 h.t0, .int .u64 h.t1, .int .u64 h.t2, .int .u64 h.t3, .slice ea en ec, .int .i64 key, .bool nak, .slice ma mn mc] v (bs ++ cat 1 [X0, h.str, X2, X3] k.toNat))) (fun i _ => (4 - intOf i).toNat)
  case atStart => exact ⟨0, _, rfl, by omega, by omega, M0⟩
  case round =>
    clear M0
    obtain ⟨k, v, rfl, k0, k1, hM⟩ := hrel
    have hk : k = 0 ∨ k = 1 ∨ k = 2 ∨ k = 3 ∨ k = 4 := by omega
    clear k0 k1
    rcases hk with rfl | rfl | rfl | rfl | rfl
    · go_wp2_with fail
      refine (number_fr B q v (bs ++ cat 1 [X0, h.str, X2, X3] 0) 1 X0 _ (by decide) (by have := HBL.out; have l1 := cat_len_le 1 [X0, h.str, X2, X3] 4; have l2 := cat_len_le 4 [sh h.del, sh h.dis, h.rid] 3; have l3 := cat_len_le 1 [X0, h.str, X2, X3] 0; simp only [List.length_append]; omega) hM.out.st).mono ?_
      rintro e' w4 ⟨rfl, hb4, v4, h4, hf4⟩
      have M4 : Hid (HS vi B q w w4 #[.int .i64 h.leap, .int .i64 h.ver, .int .i64 h.mode, .int .i64 h.str, .int .i64 h.poll, .int .i64 h.prec, .int .i64 h.del, .int .i64 h.dis, .int .u32 h.rid, .int .u64 h.t0, .int .u64 h.t1, .int .u64 h.t2, .int .u64 h.t3, .slice ea en ec, .int .i64 key, .bool nak, .slice ma mn mc] v4 (bs ++ cat 1 [X0, h.str, X2, X3] 1)) := hM.out.step hb4 (by simpa [cat, List.append_assoc] using h4) hf4 hqw.out
      clear hb4 h4 hf4
      go_wp2
      exact ⟨⟨1, v4, rfl, by omega, by omega, M4⟩, by simp [intOf]⟩
    · go_wp2_with fail
      refine (number_fr B q v (bs ++ cat 1 [X0, h.str, X2, X3] 1) 1 h.str _ (by decide) (by have := HBL.out; have l1 := cat_len_le 1 [X0, h.str, X2, X3] 4; have l2 := cat_len_le 4 [sh h.del, sh h.dis, h.rid] 3; have l3 := cat_len_le 1 [X0, h.str, X2, X3] 1; simp only [List.length_append]; omega) hM.out.st).mono ?_
      rintro e' w4 ⟨rfl, hb4, v4, h4, hf4⟩
      have M4 : Hid (HS vi B q w w4 #[.int .i64 h.leap, .int .i64 h.ver, .int .i64 h.mode, .int .i64 h.str, .int .i64 h.poll, .int .i64 h.prec, .int .i64 h.del, .int .i64 h.dis, .int .u32 h.rid, .int .u64 h.t0, .int .u64 h.t1, .int .u64 h.t2, .int .u64 h.t3, .slice ea en ec, .int .i64 key, .bool nak, .slice ma mn mc] v4 (bs ++ cat 1 [X0, h.str, X2, X3] 2)) := hM.out.step hb4 (by simpa [cat, List.append_assoc] using h4) hf4 hqw.out
      clear hb4 h4 hf4
      go_wp2
      exact ⟨⟨2, v4, rfl, by omega, by omega, M4⟩, by simp [intOf]⟩
    · go_wp2_with fail
      refine (number_fr B q v (bs ++ cat 1 [X0, h.str, X2, X3] 2) 1 X2 _ (by decide) (by have := HBL.out; have l1 := cat_len_le 1 [X0, h.str, X2, X3] 4; have l2 := cat_len_le 4 [sh h.del, sh h.dis, h.rid] 3; have l3 := cat_len_le 1 [X0, h.str, X2, X3] 2; simp only [List.length_append]; omega) hM.out.st).mono ?_
      rintro e' w4 ⟨rfl, hb4, v4, h4, hf4⟩
      have M4 : Hid (HS vi B q w w4 #[.int .i64 h.leap, .int .i64 h.ver, .int .i64 h.mode, .int .i64 h.str, .int .i64 h.poll, .int .i64 h.prec, .int .i64 h.del, .int .i64 h.dis, .int .u32 h.rid, .int .u64 h.t0, .int .u64 h.t1, .int .u64 h.t2, .int .u64 h.t3, .slice ea en ec, .int .i64 key, .bool nak, .slice ma mn mc] v4 (bs ++ cat 1 [X0, h.str, X2, X3] 3)) := hM.out.step hb4 (by simpa [cat, List.append_assoc] using h4) hf4 hqw.out
      clear hb4 h4 hf4
      go_wp2
      exact ⟨⟨3, v4, rfl, by omega, by omega, M4⟩, by simp [intOf]⟩
    · go_wp2_with fail
      refine (number_fr B q v (bs ++ cat 1 [X0, h.str, X2, X3] 3) 1 X3 _ (by decide) (by have := HBL.out; have l1 := cat_len_le 1 [X0, h.str, X2, X3] 4; have l2 := cat_len_le 4 [sh h.del, sh h.dis, h.rid] 3; have l3 := cat_len_le 1 [X0, h.str, X2, X3] 3; simp only [List.length_append]; omega) hM.out.st).mono ?_
      rintro e' w4 ⟨rfl, hb4, v4, h4, hf4⟩
      have M4 : Hid (HS vi B q w w4 #[.int .i64 h.leap, .int .i64 h.ver, .int .i64 h.mode, .int .i64 h.str, .int .i64 h.poll, .int .i64 h.prec, .int .i64 h.del, .int .i64 h.dis, .int .u32 h.rid, .int .u64 h.t0, .int .u64 h.t1, .int .u64 h.t2, .int .u64 h.t3, .slice ea en ec, .int .i64 key, .bool nak, .slice ma mn mc] v4 (bs ++ cat 1 [X0, h.str, X2, X3] 4)) := hM.out.step hb4 (by simpa [cat, List.append_assoc] using h4) hf4 hqw.out
      clear hb4 h4 hf4
      go_wp2
      exact ⟨⟨4, v4, rfl, by omega, by omega, M4⟩, by simp [intOf]⟩
    · have M3 : Hid (HS vi B q w wr #[.int .i64 h.leap, .int .i64 h.ver, .int .i64 h.mode, .int .i64 h.str, .int .i64 h.poll, .int .i64 h.prec, .int .i64 h.del, .int .i64 h.dis, .int .u32 h.rid, .int .u64 h.t0, .int .u64 h.t1, .int .u64 h.t2, .int .u64 h.t3, .slice ea en ec, .int .i64 key, .bool nak, .slice ma mn mc] v (bs ++ cat 1 [X0, h.str, X2, X3] 4 ++ cat 4 [sh h.del, sh h.dis, h.rid] 0)) := ⟨by simpa [cat] using hM.out.st, hM.out.bel, hM.out.ck, hM.out.ne, hM.out.fr⟩
      clear hM
      obtain ⟨c0, c1, c2, c3, c4, c5, c6, c7, c8, c9, c10, c11, c12, c13, c14, c15, c16⟩ := M3.out.ck.c17
      go_wp2
      go_quiet ((go_at_call 47; exact Calls.quiet_of_same (toShort_any _ _ (by omega))))
      clear c0 c1 c2 c3 c4 c5 c6 c7 c8 c9 c10 c11 c12 c13 c14 c15 c16
      obtain ⟨W3, hW3⟩ : ∃ W, W = wr.drewN nq := ⟨_, rfl⟩
      have M5 : Hid (HS vi B q w W3 #[.int .i64 h.leap, .int .i64 h.ver, .int .i64 h.mode, .int .i64 h.str, .int .i64 h.poll, .int .i64 h.prec, .int .i64 h.del, .int .i64 h.dis, .int .u32 h.rid, .int .u64 h.t0, .int .u64 h.t1, .int .u64 h.t2, .int .u64 h.t3, .slice ea en ec, .int .i64 key, .bool nak, .slice ma mn mc] v (bs ++ cat 1 [X0, h.str, X2, X3] 4 ++ cat 4 [sh h.del, sh h.dis, h.rid] 0)) := by rw [hW3]; exact M3.out.drewN nq
      rw [← hW3]
      clear hW3 M3
      go_wp2
      go_loopw [46] (fun i wr => ∃ (k : Int) (v : Value), i = .int .i64 k ∧ 0 ≤ k ∧ k ≤ 3 ∧ Hid (HS vi B q w wr #[.int .i64 h.leap, .int .i64 h.ver, .int .i64 h.mode, .int .i64 h.str, .int .i64 h.poll, .int .i64 h.prec, .int .i64 h.del, .int .i64 h.dis, .int .u32 h.rid, .int .u64 h.t0, .int .u64 h.t1, .int .u64 h.t2, .int .u64 h.t3, .slice ea en ec, .int .i64 key, .bool nak, .slice ma mn mc] v (bs ++ cat 1 [X0, h.str, X2, X3] 4 ++ cat 4 [sh h.del, sh h.dis, h.rid] k.toNat))) (fun i _ => (3 - intOf i).toNat)
      case atStart => exact ⟨0, _, rfl, by omega, by omega, M5⟩
      case round =>
        clear M5
        obtain ⟨k, v, rfl, k0, k1, hM⟩ := hrel
        have hk : k = 0 ∨ k = 1 ∨ k = 2 ∨ k = 3 := by omega
        clear k0 k1
        rcases hk with rfl | rfl | rfl | rfl
        · go_wp2_with fail
          refine (number_fr B q v (bs ++ cat 1 [X0, h.str, X2, X3] 4 ++ cat 4 [sh h.del, sh h.dis, h.rid] 0) 4 (sh h.del) _ (by decide) (by have := HBL.out; have l1 := cat_len_le 1 [X0, h.str, X2, X3] 4; have l2 := cat_len_le 4 [sh h.del, sh h.dis, h.rid] 3; have l3 := cat_len_le 4 [sh h.del, sh h.dis, h.rid] 0; simp only [List.length_append]; omega) hM.out.st).mono ?_
          rintro e' w4 ⟨rfl, hb4, v4, h4, hf4⟩
          have M4 : Hid (HS vi B q w w4 #[.int .i64 h.leap, .int .i64 h.ver, .int .i64 h.mode, .int .i64 h.str, .int .i64 h.poll, .int .i64 h.prec, .int .i64 h.del, .int .i64 h.dis, .int .u32 h.rid, .int .u64 h.t0, .int .u64 h.t1, .int .u64 h.t2, .int .u64 h.t3, .slice ea en ec, .int .i64 key, .bool nak, .slice ma mn mc] v4 (bs ++ cat 1 [X0, h.str, X2, X3] 4 ++ cat 4 [sh h.del, sh h.dis, h.rid] 1)) := hM.out.step hb4 (by simpa [cat, List.append_assoc] using h4) hf4 hqw.out
          clear hb4 h4 hf4
          go_wp2
          exact ⟨⟨1, v4, rfl, by omega, by omega, M4⟩, by simp [intOf]⟩
        · go_wp2_with fail
          refine (number_fr B q v (bs ++ cat 1 [X0, h.str, X2, X3] 4 ++ cat 4 [sh h.del, sh h.dis, h.rid] 1) 4 (sh h.dis) _ (by decide) (by have := HBL.out; have l1 := cat_len_le 1 [X0, h.str, X2, X3] 4; have l2 := cat_len_le 4 [sh h.del, sh h.dis, h.rid] 3; have l3 := cat_len_le 4 [sh h.del, sh h.dis, h.rid] 1; simp only [List.length_append]; omega) hM.out.st).mono ?_
          rintro e' w4 ⟨rfl, hb4, v4, h4, hf4⟩
          have M4 : Hid (HS vi B q w w4 #[.int .i64 h.leap, .int .i64 h.ver, .int .i64 h.mode, .int .i64 h.str, .int .i64 h.poll, .int .i64 h.prec, .int .i64 h.del, .int .i64 h.dis, .int .u32 h.rid, .int .u64 h.t0, .int .u64 h.t1, .int .u64 h.t2, .int .u64 h.t3, .slice ea en ec, .int .i64 key, .bool nak, .slice ma mn mc] v4 (bs ++ cat 1 [X0, h.str, X2, X3] 4 ++ cat 4 [sh h.del, sh h.dis, h.rid] 2)) := hM.out.step hb4 (by simpa [cat, List.append_assoc] using h4) hf4 hqw.out
          clear hb4 h4 hf4
          go_wp2
          exact ⟨⟨2, v4, rfl, by omega, by omega, M4⟩, by simp [intOf]⟩
        · go_wp2_with fail
          refine (number_fr B q v (bs ++ cat 1 [X0, h.str, X2, X3] 4 ++ cat 4 [sh h.del, sh h.dis, h.rid] 2) 4 h.rid _ (by decide) (by have := HBL.out; have l1 := cat_len_le 1 [X0, h.str, X2, X3] 4; have l2 := cat_len_le 4 [sh h.del, sh h.dis, h.rid] 3; have l3 := cat_len_le 4 [sh h.del, sh h.dis, h.rid] 2; simp only [List.length_append]; omega) hM.out.st).mono ?_
          rintro e' w4 ⟨rfl, hb4, v4, h4, hf4⟩
          have M4 : Hid (HS vi B q w w4 #[.int .i64 h.leap, .int .i64 h.ver, .int .i64 h.mode, .int .i64 h.str, .int .i64 h.poll, .int .i64 h.prec, .int .i64 h.del, .int .i64 h.dis, .int .u32 h.rid, .int .u64 h.t0, .int .u64 h.t1, .int .u64 h.t2, .int .u64 h.t3, .slice ea en ec, .int .i64 key, .bool nak, .slice ma mn mc] v4 (bs ++ cat 1 [X0, h.str, X2, X3] 4 ++ cat 4 [sh h.del, sh h.dis, h.rid] 3)) := hM.out.step hb4 (by simpa [cat, List.append_assoc] using h4) hf4 hqw.out
          clear hb4 h4 hf4
          go_wp2
          exact ⟨⟨3, v4, rfl, by omega, by omega, M4⟩, by simp [intOf]⟩
        · have M6 : Hid (HS vi B q w wr #[.int .i64 h.leap, .int .i64 h.ver, .int .i64 h.mode, .int .i64 h.str, .int .i64 h.poll, .int .i64 h.prec, .int .i64 h.del, .int .i64 h.dis, .int .u32 h.rid, .int .u64 h.t0, .int .u64 h.t1, .int .u64 h.t2, .int .u64 h.t3, .slice ea en ec, .int .i64 key, .bool nak, .slice ma mn mc] v (bs ++ cat 1 [X0, h.str, X2, X3] 4 ++ cat 4 [sh h.del, sh h.dis, h.rid] 3 ++ cat 8 [h.t0, h.t1, h.t2, h.t3] 0)) := ⟨by simpa [cat, List.append_assoc] using hM.out.st, hM.out.bel, hM.out.ck, hM.out.ne, hM.out.fr⟩
          clear hM
          obtain ⟨c0, c1, c2, c3, c4, c5, c6, c7, c8, c9, c10, c11, c12, c13, c14, c15, c16⟩ := M6.out.ck.c17
          go_wp2
          clear c0 c1 c2 c3 c4 c5 c6 c7 c8 c9 c10 c11 c12 c13 c14 c15 c16
          go_loopw [63] (fun i wr => ∃ (k : Int) (v : Value), i = .int .i64 k ∧ 0 ≤ k ∧ k ≤ 4 ∧ Hid (HS vi B q w wr #[.int .i64 h.leap, .int .i64 h.ver, .int .i64 h.mode, .int .i64 h.str, .int .i64 h.poll, .int .i64 h.prec, .int .i64 h.del, .int .i64 h.dis, .int .u32 h.rid, .int .u64 h.t0, .int .u64 h.t1, .int .u64 h.t2, .int .u64 h.t3, .slice ea en ec, .int .i64 key, .bool nak, .slice ma mn mc] v (bs ++ cat 1 [X0, h.str, X2, X3] 4 ++ cat 4 [sh h.del, sh h.dis, h.rid] 3 ++ cat 8 [h.t0, h.t1, h.t2, h.t3] k.toNat))) (fun i _ => (4 - intOf i).toNat)
          case atStart => exact ⟨0, _, rfl, by omega, by omega, M6⟩
          case round =>
            clear M6
            obtain ⟨k, v, rfl, k0, k1, hM⟩ := hrel
            have hk : k = 0 ∨ k = 1 ∨ k = 2 ∨ k = 3 ∨ k = 4 := by omega
            clear k0 k1
            rcases hk with rfl | rfl | rfl | rfl | rfl
            · go_wp2_with fail
              refine (number_fr B q v (bs ++ cat 1 [X0, h.str, X2, X3] 4 ++ cat 4 [sh h.del, sh h.dis, h.rid] 3 ++ cat 8 [h.t0, h.t1, h.t2, h.t3] 0) 8 h.t0 _ (by decide) (by have := HBL.out; have l1 := cat_len_le 1 [X0, h.str, X2, X3] 4; have l2 := cat_len_le 4 [sh h.del, sh h.dis, h.rid] 3; have l3 := cat_len_le 8 [h.t0, h.t1, h.t2, h.t3] 0; simp only [List.length_append]; omega) hM.out.st).mono ?_
              rintro e' w4 ⟨rfl, hb4, v4, h4, hf4⟩
              have M4 : Hid (HS vi B q w w4 #[.int .i64 h.leap, .int .i64 h.ver, .int .i64 h.mode, .int .i64 h.str, .int .i64 h.poll, .int .i64 h.prec, .int .i64 h.del, .int .i64 h.dis, .int .u32 h.rid, .int .u64 h.t0, .int .u64 h.t1, .int .u64 h.t2, .int .u64 h.t3, .slice ea en ec, .int .i64 key, .bool nak, .slice ma mn mc] v4 (bs ++ cat 1 [X0, h.str, X2, X3] 4 ++ cat 4 [sh h.del, sh h.dis, h.rid] 3 ++ cat 8 [h.t0, h.t1, h.t2, h.t3] 1)) := hM.out.step hb4 (by simpa [cat, List.append_assoc] using h4) hf4 hqw.out
              clear hb4 h4 hf4
              go_wp2
              exact ⟨⟨1, v4, rfl, by omega, by omega, M4⟩, by simp [intOf]⟩
            · go_wp2_with fail
              refine (number_fr B q v (bs ++ cat 1 [X0, h.str, X2, X3] 4 ++ cat 4 [sh h.del, sh h.dis, h.rid] 3 ++ cat 8 [h.t0, h.t1, h.t2, h.t3] 1) 8 h.t1 _ (by decide) (by have := HBL.out; have l1 := cat_len_le 1 [X0, h.str, X2, X3] 4; have l2 := cat_len_le 4 [sh h.del, sh h.dis, h.rid] 3; have l3 := cat_len_le 8 [h.t0, h.t1, h.t2, h.t3] 1; simp only [List.length_append]; omega) hM.out.st).mono ?_
              rintro e' w4 ⟨rfl, hb4, v4, h4, hf4⟩
              have M4 : Hid (HS vi B q w w4 #[.int .i64 h.leap, .int .i64 h.ver, .int .i64 h.mode, .int .i64 h.str, .int .i64 h.poll, .int .i64 h.prec, .int .i64 h.del, .int .i64 h.dis, .int .u32 h.rid, .int .u64 h.t0, .int .u64 h.t1, .int .u64 h.t2, .int .u64 h.t3, .slice ea en ec, .int .i64 key, .bool nak, .slice ma mn mc] v4 (bs ++ cat 1 [X0, h.str, X2, X3] 4 ++ cat 4 [sh h.del, sh h.dis, h.rid] 3 ++ cat 8 [h.t0, h.t1, h.t2, h.t3] 2)) := hM.out.step hb4 (by simpa [cat, List.append_assoc] using h4) hf4 hqw.out
              clear hb4 h4 hf4
              go_wp2
              exact ⟨⟨2, v4, rfl, by omega, by omega, M4⟩, by simp [intOf]⟩
            · go_wp2_with fail
              refine (number_fr B q v (bs ++ cat 1 [X0, h.str, X2, X3] 4 ++ cat 4 [sh h.del, sh h.dis, h.rid] 3 ++ cat 8 [h.t0, h.t1, h.t2, h.t3] 2) 8 h.t2 _ (by decide) (by have := HBL.out; have l1 := cat_len_le 1 [X0, h.str, X2, X3] 4; have l2 := cat_len_le 4 [sh h.del, sh h.dis, h.rid] 3; have l3 := cat_len_le 8 [h.t0, h.t1, h.t2, h.t3] 2; simp only [List.length_append]; omega) hM.out.st).mono ?_
              rintro e' w4 ⟨rfl, hb4, v4, h4, hf4⟩
              have M4 : Hid (HS vi B q w w4 #[.int .i64 h.leap, .int .i64 h.ver, .int .i64 h.mode, .int .i64 h.str, .int .i64 h.poll, .int .i64 h.prec, .int .i64 h.del, .int .i64 h.dis, .int .u32 h.rid, .int .u64 h.t0, .int .u64 h.t1, .int .u64 h.t2, .int .u64 h.t3, .slice ea en ec, .int .i64 key, .bool nak, .slice ma mn mc] v4 (bs ++ cat 1 [X0, h.str, X2, X3] 4 ++ cat 4 [sh h.del, sh h.dis, h.rid] 3 ++ cat 8 [h.t0, h.t1, h.t2, h.t3] 3)) := hM.out.step hb4 (by simpa [cat, List.append_assoc] using h4) hf4 hqw.out
              clear hb4 h4 hf4
              go_wp2
              exact ⟨⟨3, v4, rfl, by omega, by omega, M4⟩, by simp [intOf]⟩
            · go_wp2_with fail
              refine (number_fr B q v (bs ++ cat 1 [X0, h.str, X2, X3] 4 ++ cat 4 [sh h.del, sh h.dis, h.rid] 3 ++ cat 8 [h.t0, h.t1, h.t2, h.t3] 3) 8 h.t3 _ (by decide) (by have := HBL.out; have l1 := cat_len_le 1 [X0, h.str, X2, X3] 4; have l2 := cat_len_le 4 [sh h.del, sh h.dis, h.rid] 3; have l3 := cat_len_le 8 [h.t0, h.t1, h.t2, h.t3] 3; simp only [List.length_append]; omega) hM.out.st).mono ?_
              rintro e' w4 ⟨rfl, hb4, v4, h4, hf4⟩
              have M4 : Hid (HS vi B q w w4 #[.int .i64 h.leap, .int .i64 h.ver, .int .i64 h.mode, .int .i64 h.str, .int .i64 h.poll, .int .i64 h.prec, .int .i64 h.del, .int .i64 h.dis, .int .u32 h.rid, .int .u64 h.t0, .int .u64 h.t1, .int .u64 h.t2, .int .u64 h.t3, .slice ea en ec, .int .i64 key, .bool nak, .slice ma mn mc] v4 (bs ++ cat 1 [X0, h.str, X2, X3] 4 ++ cat 4 [sh h.del, sh h.dis, h.rid] 3 ++ cat 8 [h.t0, h.t1, h.t2, h.t3] 4)) := hM.out.step hb4 (by simpa [cat, List.append_assoc] using h4) hf4 hqw.out
              clear hb4 h4 hf4
              go_wp2
              exact ⟨⟨4, v4, rfl, by omega, by omega, M4⟩, by simp [intOf]⟩
            · go_wp2
              refine Go.Great.bodyPost_end0 rfl rfl ⟨rfl, hM.out.bel, v, ?_, hM.out.fr⟩
              rw [HR.out]
              have := hM.out.st
              simp only [List.append_assoc] at this ⊢
              exact this
end Go.Proofs.Ytdobghhjlfffpaa
