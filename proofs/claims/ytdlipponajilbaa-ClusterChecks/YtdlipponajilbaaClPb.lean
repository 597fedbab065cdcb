/- The document's examples: what they come to. Pure. -/
import Derived.Test.YtdlipponajilbaaClA
namespace Go.Proofs.Ytdlipponajilbaa
open Go Go.Sort
set_option linter.unusedVariables false
def cnd (id o : Int) : Cn := ⟨id, o, 16777216, 10, 1, false, false⟩
def pls (id o : Int) : Cn := ⟨id, o, 16777216, 10, 1, false, true⟩
def mN (l : List Cn) (i : Nat) : Nat := Sq.sum ((dfC l i).take 64) / ((dfC l i).take 64).length
theorem sj_val {l : List Cn} {i F : Nat} (h1 : F * F ≤ mN l i) (h2 : mN l i < (F + 1) * (F + 1)) : sj l i = (F : Int) := by
  show ((Sq.srt (mN l i) : Nat) : Int) = F
  rw [← Sq.srt_eq h1 h2]
def xA : List Cn := [cnd 1 0, cnd 2 1, cnd 3 2, cnd 4 1000]
def xB : List Cn := [cnd 1 0, cnd 2 1, cnd 3 2]
theorem xA0 : sj xA 0 = 577 := sj_val (by decide +kernel) (by decide +kernel)
theorem xA1 : sj xA 1 = 576 := sj_val (by decide +kernel) (by decide +kernel)
theorem xA2 : sj xA 2 = 576 := sj_val (by decide +kernel) (by decide +kernel)
theorem xA3 : sj xA 3 = 999 := sj_val (by decide +kernel) (by decide +kernel)
theorem wst_hit {l : List Cn} {k : Nat} {s : Int} (hp : (l.getD k zCn).pf = false) (hs : sj l k = s) (h : (wst l k).2 ≤ s) : wst l (k + 1) = ((k : Int), s) := by
  show (if (l.getD k zCn).pf = false ∧ (wst l k).2 ≤ sj l k then ((k : Int), sj l k) else wst l k) = _
  rw [hs, if_pos ⟨hp, h⟩]
theorem wst_no {l : List Cn} {k : Nat} {s : Int} {r : Int × Int} (hr : wst l k = r) (hs : sj l k = s) (h : ¬ r.2 ≤ s) : wst l (k + 1) = r := by
  show (if (l.getD k zCn).pf = false ∧ (wst l k).2 ≤ sj l k then ((k : Int), sj l k) else wst l k) = _
  rw [hs, hr, if_neg (fun x => h x.2)]
theorem wA : wst xA 4 = (3, 999) := by
  have h1 : wst xA 1 = (0, 577) := wst_hit rfl xA0 (by decide)
  have h2 : wst xA 2 = (0, 577) := wst_no h1 xA1 (by decide)
  have h3 : wst xA 3 = (0, 577) := wst_no h2 xA2 (by decide)
  exact wst_hit rfl xA3 (by rw [h3]; decide)
theorem gA : goes xA = some 3 := by
  unfold goes
  rw [show xA.length = 4 from rfl, wA, show qut xA 4 = 10 from by decide +kernel]
  rfl
theorem stA : St.st ltc xA = xA := by kernel_rfl
theorem cluA : clu xA = xB := by
  unfold clu
  rw [stA, show xA.take 10 = xA from rfl, clN_go (by decide) gA, show xA.eraseIdx 3 = xB from rfl]
  exact clN_small (by decide)
def xC : List Cn := [cnd 1 100, cnd 2 100]
theorem oC : cmO xC = 100 := by decide +kernel
theorem jC : cmJ xC = 10 := by
  have h0 : sj xC 0 = 0 := sj_val (F := 0) (by decide +kernel) (by decide +kernel)
  unfold cmJ
  rw [if_neg (by simp [xC]), show xC.take 16 = xC from rfl, h0]
  rfl
def xM : List Cn := [cnd 1 50, pls 2 7]
theorem cluM : clu xM = xM := by
  have h : St.st ltc xM = xM := by kernel_rfl
  unfold clu
  rw [h]
  exact clN_small (by decide)
theorem mitM : mit xM 0 = ⟨2, 7, 10, true, true⟩ := by
  unfold mit
  rw [cluM]
  kernel_rfl
def xS : List Cn := [cnd 1 0, cnd 2 3, cnd 3 4]
theorem selS : (if idxP (isId 1) xS < 0 then 0 else sj xS (idxP (isId 1) xS).toNat) = 3 := by
  have e : idxP (isId 1) xS = 0 := by decide +kernel
  rw [e, if_neg (by decide)]
  exact sj_val (F := 3) (by decide +kernel) (by decide +kernel)
theorem cnd_ok {id o : Int} (h1 : i64B id) (h2 : i64B o) : okC (cnd id o) := ⟨h1, h2, by unfold i64B cnd; simp, by unfold i64B cnd; simp, by unfold i64B cnd; simp⟩
theorem pls_ok {id o : Int} (h1 : i64B id) (h2 : i64B o) : okC (pls id o) := ⟨h1, h2, by unfold i64B pls; simp, by unfold i64B pls; simp, by unfold i64B pls; simp⟩
theorem okA : ∀ c ∈ xA, okC c := by
  intro c hc
  simp only [xA, List.mem_cons, List.not_mem_nil, or_false] at hc
  rcases hc with rfl | rfl | rfl | rfl <;> exact cnd_ok (by unfold i64B; decide) (by unfold i64B; decide)
theorem okCc : ∀ c ∈ xC, okC c := by
  intro c hc
  simp only [xC, List.mem_cons, List.not_mem_nil, or_false] at hc
  rcases hc with rfl | rfl <;> exact cnd_ok (by unfold i64B; decide) (by unfold i64B; decide)
theorem okM : ∀ c ∈ xM, okC c := by
  intro c hc
  simp only [xM, List.mem_cons, List.not_mem_nil, or_false] at hc
  rcases hc with rfl | rfl
  · exact cnd_ok (by unfold i64B; decide) (by unfold i64B; decide)
  · exact pls_ok (by unfold i64B; decide) (by unfold i64B; decide)
theorem okS : ∀ c ∈ xS, okC c := by
  intro c hc
  simp only [xS, List.mem_cons, List.not_mem_nil, or_false] at hc
  rcases hc with rfl | rfl | rfl <;> exact cnd_ok (by unfold i64B; decide) (by unfold i64B; decide)
end Go.Proofs.Ytdlipponajilbaa
