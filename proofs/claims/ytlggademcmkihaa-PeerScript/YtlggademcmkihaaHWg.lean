/- Request of the program: its end, where it asks by no broadcast. -/
import Derived.Test.YtlggademcmkihaaHWa
namespace Go.Proofs.Ytlggademcmkihaa
open Go Go.RowKit
def dropSeq : Nat → Code → Code
  | 0, c => c
  | n + 1, .seq _ c => dropSeq n c
  | _, c => c
def rqTail (f : Go.Func) : Code := match f.body with | some c => dropSeq 5 c | none => .skip
set_option maxRecDepth 20000 in
set_option maxHeartbeats 1000000 in
theorem request_tail (p : Nat) (s : Ps) (y : Sy) (poll xmt K σ : Int) (w W7 : World) (g : Nat) (hK5 : ¬ K = 5) (hF : VF w W7 p y s g (⟨y.leap, 4, K, σ, min (max poll (-128)) 127, -20, ow y.del, ow y.dis, y.rid, y.ref, 0, 0, max xmt 1, none, 0, 0, 0, false, none, 0, 0⟩ : Pk)) (v1 v2 v3 v4 v5 v6 v7 v9 v12 v13 v14 v15 v16 v17 v18 v19 v20 v21 v22 v23 v24 v25 v26 v27 v28 v29 v30 v31 v32 v33 v34 v35 v36 v37 v38 v39 v40 v41 v42 v43 v44 v45 v46 v47 v48 v49 v50 v51 v52 v53 v54 v55 v56 v57 v58 v59 v60 v61 v62 v63 v64 v65 v66 v67 v68 v69 v70 v71 v72 v73 v74 v75 v76 : Value) :
    Code.wp Try.prog (rqTail Try.f33) (bodyPost Try.prog Try.f33 fun e w' => e = .returned (.tuple #[.agg (pkC (⟨y.leap, 4, K, σ, min (max poll (-128)) 127, -20, ow y.del, ow y.dis, y.rid, y.ref, s.ex, s.ea, max xmt 1, none, 0, 0, 0, false, none, 0, 0⟩ : Pk)).toArray, .bool true]) ∧ Pm w' p { s with req := max xmt 1 } ∧ w.grownBy w' (some p)) { tmps := #[.pointer (some ⟨p, 0, none⟩), v1, v2, v3, v4, v5, v6, v7, .pointer (some ⟨w.heap.size + 1, 0, none⟩), v9, .int .i64 K, .pointer (some ⟨g, 0, none⟩), v12, v13, v14, v15, v16, v17, v18, v19, v20, v21, v22, v23, v24, v25, v26, v27, v28, v29, v30, v31, v32, v33, v34, v35, v36, v37, v38, v39, v40, v41, v42, v43, v44, v45, v46, v47, v48, v49, v50, v51, v52, v53, v54, v55, v56, v57, v58, v59, v60, v61, v62, v63, v64, v65, v66, v67, v68, v69, v70, v71, v72, v73, v74, v75, v76], defers := [] } W7 := by
  have HF : Hid (VF w W7 p y s g (⟨y.leap, 4, K, σ, min (max poll (-128)) 127, -20, ow y.del, ow y.dis, y.rid, y.ref, 0, 0, max xmt 1, none, 0, 0, 0, false, none, 0, 0⟩ : Pk)) := hF
  clear hF
  have n5 : (K != 5) = true := by simpa using hK5
  unfold rqTail Try.f33
  simp only [dropSeq]
  refine post_hid fun Q hQ => ?_
  have k1 := HF.out.pm.ex
  have k2 := HF.out.pm.ea
  have k3 := HF.out.pk.org
  have k4 := HF.out.pk.rc
  have kf := HF.out.pk.frozen
  refine seq_hid fun R hR => ?_
  go_wp2
  go_region
  have HF : Hid (VF w ((W7.setCell ⟨g, 10, none⟩ (.int .u64 s.ex)).setCell ⟨g, 11, none⟩ (.int .u64 s.ea)).drew p y s g (⟨y.leap, 4, K, σ, min (max poll (-128)) 127, -20, ow y.del, ow y.dis, y.rid, y.ref, s.ex, s.ea, max xmt 1, none, 0, 0, 0, false, none, 0, 0⟩ : Pk)) := ((HF.out.cell (q' := (⟨y.leap, 4, K, σ, min (max poll (-128)) 127, -20, ow y.del, ow y.dis, y.rid, y.ref, s.ex, 0, max xmt 1, none, 0, 0, 0, false, none, 0, 0⟩ : Pk)) 10 (.int .u64 s.ex) rfl).cell 11 (.int .u64 s.ea) rfl).drew
  generalize ((W7.setCell ⟨g, 10, none⟩ (.int .u64 s.ex)).setCell ⟨g, 11, none⟩ (.int .u64 s.ea)).drew = W8 at HF ⊢
  clear k1 k2 k3 k4 kf
  have k1 := HF.out.pk.xmt
  have k2 := HF.out.pm.req
  have kf := HF.out.pm.frozen
  go_wp2_with fail
  rw [hR.out]
  clear hR
  have HF := HF.out.req (max xmt 1)
  generalize W8.setCell ⟨p, 5, none⟩ (.int .u64 (max xmt 1)) = W9 at HF ⊢
  have HF : Hid (VF w W9 p y { s with req := max xmt 1 } g (⟨y.leap, 4, K, σ, min (max poll (-128)) 127, -20, ow y.del, ow y.dis, y.rid, y.ref, s.ex, s.ea, max xmt 1, none, 0, 0, 0, false, none, 0, 0⟩ : Pk)) := HF
  clear k1 k2 kf
  go_wp2_with (first
    | (refine step_ldat 44 _ rfl rfl ⟨g, 0, none⟩ (by rfl) (pkC (⟨y.leap, 4, K, σ, min (max poll (-128)) 127, -20, ow y.del, ow y.dis, y.rid, y.ref, s.ex, s.ea, max xmt 1, none, 0, 0, 0, false, none, 0, 0⟩ : Pk)) _ Try.underlying44 rfl (by kernel_rfl) HF.out.pk.all ?_)
    | (refine step_stR (by rfl) _ _ rfl (w.heap.size + 1) (pkC (⟨y.leap, 4, K, σ, min (max poll (-128)) 127, -20, ow y.del, ow y.dis, y.rid, y.ref, s.ex, s.ea, max xmt 1, none, 0, 0, 0, false, none, 0, 0⟩ : Pk)).toArray (by rfl) (by rfl) pkZ (by kernel_rfl) (by kernel_rfl) (pkC_one _) HF.out.room ?_))
  rw [hQ.out]
  exact bodyPost_ret (v := .tuple #[.agg (pkC (⟨y.leap, 4, K, σ, min (max poll (-128)) 127, -20, ow y.del, ow y.dis, y.rid, y.ref, s.ex, s.ea, max xmt 1, none, 0, 0, 0, false, none, 0, 0⟩ : Pk)).toArray, .bool true]) (results_ct Try.results33 _ _ (w.heap.size + 1) _ _ _ _ (by rfl) (by rfl) (setRow_heap _ _ _ _ _ _ HF.out.room) Try.underlying44 rfl (by kernel_rfl)) rfl ⟨rfl, HF.out.row _⟩
end Go.Proofs.Ytlggademcmkihaa
