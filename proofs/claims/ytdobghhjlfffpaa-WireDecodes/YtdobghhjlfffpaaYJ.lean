/- What the reference's Decode returns. -/
import Derived.Test.YtdobghhjlfffpaaYLc
import Derived.Test.YtdobghhjlfffpaaYJa
import Derived.Deep.CutRange
namespace Go.Proofs.Ytdobghhjlfffpaa
open Go.RowKit
set_option linter.unusedVariables false
set_option maxRecDepth 40000 in
set_option maxHeartbeats 8000000 in
theorem rdecode_M (ao : Option Addr) (L cap : Nat) (bs : List Int) (w : World) (h : Sv w.heap.size w (.slice ao L cap) bs) (h48 : 48 ≤ bs.length) (h512 : bs.length ≤ 512) :
    Calls Try.prog 18 #[.slice ao L cap] w fun e' w' => DcR bs w e' w' := by
  have H : Hid (Sv w.heap.size w (.slice ao L cap) bs) := h
  obtain ⟨ao', cap', hv, hc, hcn, hrs, hok⟩ := h
  injection hv with p1 p2 p3
  subst p1 p3
  have hL : L = bs.length := p2
  clear p2
  have HLE : Hid (48 ≤ bs.length ∧ bs.length ≤ 512) := ⟨h48, h512⟩
  have l48 : (48 : Int) ≤ L := by omega
  have l512 : (L : Int) ≤ 512 := by omega
  have hcL : (L : Int) ≤ cap := by omega
  have HB : Hid (okb bs ∧ Rs w.heap.size w ao bs) := ⟨hok, hrs⟩
  have HLL : Hid (L = bs.length) := hL
  clear hc hcn hrs hok hL h48 h512
  obtain ⟨ad0, g0, b0⟩ := HB.out.2.at 0 (by have := HLE.out; omega)
  have hix0 : ∀ w, Sem.run Try.prog (Instr.indexAt 27 (.slice ao L cap) (.int .i64 0)) w = .ok (.pointer (some (ad0.add 0))) w := idx_run L cap 0 g0.out (by omega)
  obtain ⟨a0, ha0⟩ : ∃ a, a = ad0.add 0 := ⟨_, rfl⟩
  rw [← ha0] at b0 hix0
  have hlt0 : a0.block < w.heap.size := World.block_lt_of_cell? w _ b0
  obtain ⟨x0, hx0⟩ : ∃ x, x = bs.getD 0 0 := ⟨_, rfl⟩
  obtain ⟨x00, x01⟩ := okb_at HB.out.1 0
  rw [← hx0] at b0 x00 x01
  have HX0 : Hid (x0 = fv bs 0 1) := by show _ = _; rw [hx0, fv1 bs 0 (by have := HLE.out; omega)]
  clear ha0 hx0 g0
  obtain ⟨ad1, g1, b1⟩ := HB.out.2.at 1 (by have := HLE.out; omega)
  have hix1 : ∀ w, Sem.run Try.prog (Instr.indexAt 27 (.slice ao L cap) (.int .i64 1)) w = .ok (.pointer (some (ad1.add 1))) w := idx_run L cap 1 g1.out (by omega)
  obtain ⟨a1, ha1⟩ : ∃ a, a = ad1.add 1 := ⟨_, rfl⟩
  rw [← ha1] at b1 hix1
  have hlt1 : a1.block < w.heap.size := World.block_lt_of_cell? w _ b1
  obtain ⟨x1, hx1⟩ : ∃ x, x = bs.getD 1 0 := ⟨_, rfl⟩
  obtain ⟨x10, x11⟩ := okb_at HB.out.1 1
  rw [← hx1] at b1 x10 x11
  have HX1 : Hid (x1 = fv bs 1 1) := by show _ = _; rw [hx1, fv1 bs 1 (by have := HLE.out; omega)]
  clear ha1 hx1 g1
  obtain ⟨ad2, g2, b2⟩ := HB.out.2.at 2 (by have := HLE.out; omega)
  have hix2 : ∀ w, Sem.run Try.prog (Instr.indexAt 27 (.slice ao L cap) (.int .i64 2)) w = .ok (.pointer (some (ad2.add 2))) w := idx_run L cap 2 g2.out (by omega)
  obtain ⟨a2, ha2⟩ : ∃ a, a = ad2.add 2 := ⟨_, rfl⟩
  rw [← ha2] at b2 hix2
  have hlt2 : a2.block < w.heap.size := World.block_lt_of_cell? w _ b2
  obtain ⟨x2, hx2⟩ : ∃ x, x = bs.getD 2 0 := ⟨_, rfl⟩
  obtain ⟨x20, x21⟩ := okb_at HB.out.1 2
  rw [← hx2] at b2 x20 x21
  have HX2 : Hid (x2 = fv bs 2 1) := by show _ = _; rw [hx2, fv1 bs 2 (by have := HLE.out; omega)]
  clear ha2 hx2 g2
  obtain ⟨ad3, g3, b3⟩ := HB.out.2.at 3 (by have := HLE.out; omega)
  have hix3 : ∀ w, Sem.run Try.prog (Instr.indexAt 27 (.slice ao L cap) (.int .i64 3)) w = .ok (.pointer (some (ad3.add 3))) w := idx_run L cap 3 g3.out (by omega)
  obtain ⟨a3, ha3⟩ : ∃ a, a = ad3.add 3 := ⟨_, rfl⟩
  rw [← ha3] at b3 hix3
  have hlt3 : a3.block < w.heap.size := World.block_lt_of_cell? w _ b3
  obtain ⟨x3, hx3⟩ : ∃ x, x = bs.getD 3 0 := ⟨_, rfl⟩
  obtain ⟨x30, x31⟩ := okb_at HB.out.1 3
  rw [← hx3] at b3 x30 x31
  have HX3 : Hid (x3 = fv bs 3 1) := by show _ = _; rw [hx3, fv1 bs 3 (by have := HLE.out; omega)]
  clear ha3 hx3 g3
  obtain ⟨LP, hLP⟩ : ∃ A, A = x0 / 64 := ⟨_, rfl⟩
  obtain ⟨V8, hV8⟩ : ∃ A, A = x0 / 8 := ⟨_, rfl⟩
  obtain ⟨VR, hVR⟩ : ∃ A, A = x0 / 8 % 8 := ⟨_, rfl⟩
  obtain ⟨MD, hMD⟩ : ∃ A, A = x0 % 8 := ⟨_, rfl⟩
  have e1 : IntKind.u8.wrap (x0.tdiv 64) = LP := by rw [Int.tdiv_eq_ediv_of_nonneg x00, hLP, IntKind.wrap_u8]; omega
  have e2 : IntKind.u8.wrap (x0.tdiv 8) = V8 := by rw [Int.tdiv_eq_ediv_of_nonneg x00, hV8, IntKind.wrap_u8]; omega
  have e3 : V8.tmod 8 = VR := by rw [hV8, hVR, Int.tmod_eq_emod_of_nonneg (by omega)]
  have e4 : x0.tmod 8 = MD := by rw [Int.tmod_eq_emod_of_nonneg x00, hMD]
  have w1 : IntKind.i64.wrap LP = LP := by rw [IntKind.wrap_i64]; omega
  have w2 : IntKind.i64.wrap VR = VR := by rw [IntKind.wrap_i64]; omega
  have w3 : IntKind.i64.wrap MD = MD := by rw [IntKind.wrap_i64]; omega
  have w4 : IntKind.i64.wrap x1 = x1 := by rw [IntKind.wrap_i64]; omega
  have HH : Hid (hdD bs = ⟨LP, VR, MD, x1, sg x2, sg x3, fv bs 4 4 * 65536, fv bs 8 4 * 65536, fv bs 12 4, fv bs 16 8, fv bs 24 8, fv bs 32 8, fv bs 40 8⟩) := by
    show _ = _
    unfold hdD
    rw [← HX0.out, ← HX1.out, ← HX2.out, ← HX3.out, ← hLP, ← hVR, ← hMD]
  have HVM : Hid (vmB bs = (wiB VR 1 4 && wiB MD 1 5)) := by
    show _ = _
    unfold vmB
    rw [← HX0.out, ← hVR, ← hMD]
  clear hLP hV8 hVR hMD
  obtain ⟨W0, hW0⟩ : ∃ W, W = ((w.alloc (.cells #[.int .i64 0, .int .i64 0, .int .i64 0, .int .i64 0, .int .i64 0, .int .i64 0, .int .i64 0, .int .i64 0, .int .u32 0, .int .u64 0, .int .u64 0, .int .u64 0, .int .u64 0, .slice none 0 0, .int .i64 0, .bool false, .slice none 0 0] 29)).alloc (.cells #[.int .i64 0, .int .i64 0, .int .i64 0, .int .i64 0, .int .i64 0, .int .i64 0, .int .i64 0, .int .i64 0, .int .u32 0, .int .u64 0, .int .u64 0, .int .u64 0, .int .u64 0, .slice none 0 0, .int .i64 0, .bool false, .slice none 0 0] 29)).setRow (w.heap.size + 1) #[.int .i64 0, .int .i64 0, .int .i64 0, .int .i64 0, .int .i64 0, .int .i64 0, .int .i64 0, .int .i64 0, .int .u32 0, .int .u64 0, .int .u64 0, .int .u64 0, .int .u64 0, .slice none 0 0, .int .i64 0, .bool false, .slice none 0 0] := ⟨_, rfl⟩
  have Z0 : Hid (Bk w.heap.size W0 #[.int .i64 0, .int .i64 0, .int .i64 0, .int .i64 0, .int .i64 0, .int .i64 0, .int .i64 0, .int .i64 0, .int .u32 0, .int .u64 0, .int .u64 0, .int .u64 0, .int .u64 0, .slice none 0 0, .int .i64 0, .bool false, .slice none 0 0] 29 ∧ Bk (w.heap.size + 1) W0 #[.int .i64 0, .int .i64 0, .int .i64 0, .int .i64 0, .int .i64 0, .int .i64 0, .int .i64 0, .int .i64 0, .int .u32 0, .int .u64 0, .int .u64 0, .int .u64 0, .int .u64 0, .slice none 0 0, .int .i64 0, .bool false, .slice none 0 0] 29 ∧ Below w.heap.size w W0) := by rw [hW0]; exact ⟨zy0 w, zy1 w, zyb w⟩
  have sz0 : W0.heap.size = w.heap.size + 2 := by rw [hW0]; simp [World.setRow]
  have c0 : W0.cell? a0 = some (.int .u8 x0) := by rw [Z0.out.2.2.cell hlt0]; exact b0
  have c1 : W0.cell? a1 = some (.int .u8 x1) := by rw [Z0.out.2.2.cell hlt1]; exact b1
  have c2 : W0.cell? a2 = some (.int .u8 x2) := by rw [Z0.out.2.2.cell hlt2]; exact b2
  have c3 : W0.cell? a3 = some (.int .u8 x3) := by rw [Z0.out.2.2.cell hlt3]; exact b3
  have hbody : (Try.f18).body = some (seqTo3 5 ((Try.f18).body.getD .skip) (rdFields Try.f18)) := by kernel_rfl
  obtain ⟨CL, hCL⟩ : ∃ c, c = rdFields Try.f18 := ⟨_, rfl⟩
  have HCL : Hid (CL = rdFields Try.f18) := hCL
  rw [← hCL] at hbody
  clear hCL
  refine calls_of_wp Try.func18 hbody ?_
  clear hbody
  simp only [Try.ntmps18, List.size_toArray, List.length_cons, List.length_nil, Nat.reduceAdd, Nat.reduceSub, Array.replicate_succ, Array.replicate_zero, List.push_toArray, List.append_toArray, List.nil_append, List.cons_append]
  refine post_hid3 fun QB hQB => ?_
  unfold Try.f18
  simp only [seqTo3, Option.getD_some]
  go_wp2_with (refine step_spk (by rfl) _ _ (by rfl) (w.heap.size + 1) #[.int .i64 0, .int .i64 0, .int .i64 0, .int .i64 0, .int .i64 0, .int .i64 0, .int .i64 0, .int .i64 0, .int .u32 0, .int .u64 0, .int .u64 0, .int .u64 0, .int .u64 0, .slice none 0 0, .int .i64 0, .bool false, .slice none 0 0] (by rfl) (by rfl) #[.int .i64 0, .int .i64 0, .int .i64 0, .int .i64 0, .int .i64 0, .int .i64 0, .int .i64 0, .int .i64 0, .int .u32 0, .int .u64 0, .int .u64 0, .int .u64 0, .int .u64 0, .slice none 0 0, .int .i64 0, .bool false, .slice none 0 0] ?_ (by rfl) (by rfl) (by kernel_rfl) ?_; exact zz1 w)
  rw [← hW0]
  clear hW0
  have n0 := World.new_ne W0 a0 c0
  have n1 := World.new_ne W0 a1 c1
  have n2 := World.new_ne W0 a2 c2
  have n3 := World.new_ne W0 a3 c3
  go_cut [5] from 19 to 47 (fun p wx => p = .pointer (some ⟨w.heap.size + 2, 0, none⟩) ∧ Hid (PC w wx #[.int .i64 LP, .int .i64 VR, .int .i64 MD, .int .i64 x1, .int .i64 (sg x2), .int .i64 (sg x3), .int .i64 0, .int .i64 0, .int .u32 0, .int .u64 0, .int .u64 0, .int .u64 0, .int .u64 0, .slice none 0 0, .int .i64 0, .bool false, .slice none 0 0]))
  case first =>
    go_region_held3 (fun w' => w'.cell? a0 = some (.int .u8 x0) ∧ w'.cell? a1 = some (.int .u8 x1) ∧ w'.cell? a2 = some (.int .u8 x2) ∧ w'.cell? a3 = some (.int .u8 x3)) (first | exact ⟨c0, c1, c2, c3⟩ | go_keep) ((go_at_call 40; refine (rsigned_any _ _ (by assumption) (by assumption)).mono ?_; rintro e' w9 ⟨rfl, hw9⟩; rw [hw9]; clear hw9))
    all_goals
      go_wp2_with fail
      go_meet
      case rel =>
        refine ⟨rfl, Z0.out.1.alloc _, Z0.out.2.1.alloc _, ?_, (Z0.out.2.2.alloc (by omega) _).drew⟩
        have := Bk.new W0 #[.int .i64 LP, .int .i64 VR, .int .i64 MD, .int .i64 x1, .int .i64 (sg x2), .int .i64 (sg x3), .int .i64 0, .int .i64 0, .int .u32 0, .int .u64 0, .int .u64 0, .int .u64 0, .int .u64 0, .slice none 0 0, .int .i64 0, .bool false, .slice none 0 0] 29
        rw [sz0] at this
        exact this
  case rest =>
    obtain ⟨rfl, P5⟩ := hcut
    refine (‹∀ (a : Act) (w : World), Code.wp Try.prog CL QB a w → _› _ _ ?_)
    rw [HCL.out, hQB.out]
    exact rd_fields ao L cap bs w wc H.out HLE.out.1 HLE.out.2 LP VR MD x1 x2 x3 HH.out HVM.out P5.out _ _ _ _ _ _ _ _ _ _ _ _ _ _ _ _ _ _ _ _ _ _ _ _ _ _ _ _ _ _ _ _ _ _ _ _ _ _ _ _ _ _ _ _ _ _ _ _ _ _ _ _ _ _ _ _ _ _ _ _ _ _ _ _ _ _ _ _ _ _ _ _ _ _ _ _ _ _ _ _ _ _ _ _ _ _ _ _ _ _ _ _ _ _ _ _ _ _ _ _ _ _ _ _ _ _ _ _ _ _ _ _ _ _ _ _ _ _ _ _ _ _ _ _ _ _ _ _ _ _ _ _ _ _ _ _ _ _ _ _ _ _ _ _ _ _ _ _ _ _ _ _ _ _ _ _
theorem rdecode_any (v : Value) (bs : List Int) (w : World) (h : Sv w.heap.size w v bs) :
    Calls Try.prog 18 #[v] w fun e' w' => DcR bs w e' w' := by
  by_cases hl : 512 < bs.length ∨ bs.length < 48
  · exact rdecode_L v bs w h hl
  · obtain ⟨ao, cap, rfl, hc⟩ := id h
    exact rdecode_M ao bs.length cap bs w h (by omega) (by omega)
end Go.Proofs.Ytdobghhjlfffpaa
