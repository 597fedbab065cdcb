/- What the reference's Decode returns. -/
import Derived.Test.YtdobghhjlfffpaaYI
namespace Go.Proofs.Ytdobghhjlfffpaa
open Go.RowKit
set_option maxRecDepth 40000 in
set_option maxHeartbeats 8000000 in
theorem rdecode_L (v : Value) (bs : List Int) (w : World) (h : Sv w.heap.size w v bs) (hl : 512 < bs.length ∨ bs.length < 48) :
    Calls Try.prog 18 #[v] w fun e' w' => DcR bs w e' w' := by
  obtain ⟨ao, cap, rfl, hc, hcn, hrs, hok⟩ := h
  obtain ⟨L, hL⟩ : ∃ L, L = bs.length := ⟨_, rfl⟩
  rw [← hL]
  have HL : Hid (L = bs.length) := hL
  clear hc hcn hrs hok
  rcases hl with hl | hl
  · have hE : Hid (dcE bs = 31) := by show _ = _; unfold dcE; rw [if_pos hl]
    have l5 : (512 : Int) < L := by omega
    clear hl hL
    go_enter Try.func18, Try.ntmps18
    go_wp2_with (first | (refine step_spk (by rfl) _ _ (by rfl) (w.heap.size + 1) #[.int .i64 0, .int .i64 0, .int .i64 0, .int .i64 0, .int .i64 0, .int .i64 0, .int .i64 0, .int .i64 0, .int .u32 0, .int .u64 0, .int .u64 0, .int .u64 0, .int .u64 0, .slice none 0 0, .int .i64 0, .bool false, .slice none 0 0] (by rfl) (by rfl) #[.int .i64 0, .int .i64 0, .int .i64 0, .int .i64 0, .int .i64 0, .int .i64 0, .int .i64 0, .int .i64 0, .int .u32 0, .int .u64 0, .int .u64 0, .int .u64 0, .int .u64 0, .slice none 0 0, .int .i64 0, .bool false, .slice none 0 0] ?_ (by rfl) (by rfl) (by kernel_rfl) ?_; exact zz1 w) | (refine step_pk (by rfl) _ (by rfl) (w.heap.size + 1) (by rfl) #[.int .i64 0, .int .i64 0, .int .i64 0, .int .i64 0, .int .i64 0, .int .i64 0, .int .i64 0, .int .i64 0, .int .u32 0, .int .u64 0, .int .u64 0, .int .u64 0, .int .u64 0, .slice none 0 0, .int .i64 0, .bool false, .slice none 0 0] (by rfl) ?_ ?_; exact (zy1 w)) | (refine step_spk (by rfl) _ _ (by rfl) w.heap.size #[.int .i64 0, .int .i64 0, .int .i64 0, .int .i64 0, .int .i64 0, .int .i64 0, .int .i64 0, .int .i64 0, .int .u32 0, .int .u64 0, .int .u64 0, .int .u64 0, .int .u64 0, .slice none 0 0, .int .i64 0, .bool false, .slice none 0 0] (by rfl) (by rfl) #[.int .i64 0, .int .i64 0, .int .i64 0, .int .i64 0, .int .i64 0, .int .i64 0, .int .i64 0, .int .i64 0, .int .u32 0, .int .u64 0, .int .u64 0, .int .u64 0, .int .u64 0, .slice none 0 0, .int .i64 0, .bool false, .slice none 0 0] ?_ (by rfl) (by rfl) (by kernel_rfl) ?_; exact (zy0 w)))
    exact bodyPost_ret (v := .tuple #[.agg #[.int .i64 0, .int .i64 0, .int .i64 0, .int .i64 0, .int .i64 0, .int .i64 0, .int .i64 0, .int .i64 0, .int .u32 0, .int .u64 0, .int .u64 0, .int .u64 0, .int .u64 0, .slice none 0 0, .int .i64 0, .bool false, .slice none 0 0], .int .i64 31]) (res_pk2 Try.results18 _ _ w.heap.size _ _ (by rfl) (by rfl) (Bk.row (zy0 w)) (by rfl)) rfl (DcR.err hE.out (by decide) (Bk.below_row (zyb w) (zy0 w).lt))

  · have hE : Hid (dcE bs = 30) := by show _ = _; unfold dcE; rw [if_neg (by omega), if_pos hl]
    have l5 : (L : Int) < 48 := by omega
    clear hl hL
    go_enter Try.func18, Try.ntmps18
    go_wp2_with (first | (refine step_spk (by rfl) _ _ (by rfl) (w.heap.size + 1) #[.int .i64 0, .int .i64 0, .int .i64 0, .int .i64 0, .int .i64 0, .int .i64 0, .int .i64 0, .int .i64 0, .int .u32 0, .int .u64 0, .int .u64 0, .int .u64 0, .int .u64 0, .slice none 0 0, .int .i64 0, .bool false, .slice none 0 0] (by rfl) (by rfl) #[.int .i64 0, .int .i64 0, .int .i64 0, .int .i64 0, .int .i64 0, .int .i64 0, .int .i64 0, .int .i64 0, .int .u32 0, .int .u64 0, .int .u64 0, .int .u64 0, .int .u64 0, .slice none 0 0, .int .i64 0, .bool false, .slice none 0 0] ?_ (by rfl) (by rfl) (by kernel_rfl) ?_; exact zz1 w) | (refine step_pk (by rfl) _ (by rfl) (w.heap.size + 1) (by rfl) #[.int .i64 0, .int .i64 0, .int .i64 0, .int .i64 0, .int .i64 0, .int .i64 0, .int .i64 0, .int .i64 0, .int .u32 0, .int .u64 0, .int .u64 0, .int .u64 0, .int .u64 0, .slice none 0 0, .int .i64 0, .bool false, .slice none 0 0] (by rfl) ?_ ?_; exact (zy1 w)) | (refine step_spk (by rfl) _ _ (by rfl) w.heap.size #[.int .i64 0, .int .i64 0, .int .i64 0, .int .i64 0, .int .i64 0, .int .i64 0, .int .i64 0, .int .i64 0, .int .u32 0, .int .u64 0, .int .u64 0, .int .u64 0, .int .u64 0, .slice none 0 0, .int .i64 0, .bool false, .slice none 0 0] (by rfl) (by rfl) #[.int .i64 0, .int .i64 0, .int .i64 0, .int .i64 0, .int .i64 0, .int .i64 0, .int .i64 0, .int .i64 0, .int .u32 0, .int .u64 0, .int .u64 0, .int .u64 0, .int .u64 0, .slice none 0 0, .int .i64 0, .bool false, .slice none 0 0] ?_ (by rfl) (by rfl) (by kernel_rfl) ?_; exact (zy0 w)))
    exact bodyPost_ret (v := .tuple #[.agg #[.int .i64 0, .int .i64 0, .int .i64 0, .int .i64 0, .int .i64 0, .int .i64 0, .int .i64 0, .int .i64 0, .int .u32 0, .int .u64 0, .int .u64 0, .int .u64 0, .int .u64 0, .slice none 0 0, .int .i64 0, .bool false, .slice none 0 0], .int .i64 30]) (res_pk2 Try.results18 _ _ w.heap.size _ _ (by rfl) (by rfl) (Bk.row (zy0 w)) (by rfl)) rfl (DcR.err hE.out (by decide) (Bk.below_row (zyb w) (zy0 w).lt))

end Go.Proofs.Ytdobghhjlfffpaa
