/- Two ranges exchanged: slices.swapRangeCmpFunc. -/
import Derived.Test.YtdlipponajilbaaClQ
import Derived.Test.YtdlipponajilbaaKL
import Derived.Shelf.SlSortCmp.KitK
namespace Go.Proofs.Ytdlipponajilbaa
open Go Go.RowKit Go.Sort Go.Shelf Go.Lib Go.Proofs
set_option linter.unusedVariables false
variable {α : Type} [Inhabited α] {enc : α → List Value} {w0 : World} {blk off : Nat} {d0 : Array α}
set_option maxHeartbeats 1000000 in
set_option maxRecDepth 1000000 in
theorem swapRange_any (R : RowK enc 8 w0 blk off d0) (P A Y B Z : List α) (n N a b cap : Nat) (cv : Value) (hA : A.length = n) (hB : B.length = n) (ha : a = P.length) (hb : b = P.length + n + Y.length) (hN : N = d0.size) (hL : N = P.length + n + Y.length + n + Z.length) (hsz : N ≤ 1000000)
    (W : World) (h : SWK enc 8 w0 blk off (P ++ (A ++ (Y ++ (B ++ Z)))).toArray W) :
    Calls Try.prog 89 #[.slice (some ⟨blk, off, none⟩) N cap, .int .i64 (a : Int), .int .i64 (b : Int), .int .i64 (n : Int), cv] W fun e w' => e = .returned (.tuple #[]) ∧ Hid (SWK enc 8 w0 blk off (P ++ (B ++ (Y ++ (A ++ Z)))).toArray w') := by
  have HR : Hid (RowK enc 8 w0 blk off d0) := R
  have H0 : Hid (SWK enc 8 w0 blk off (St.swS P A Y B Z 0).toArray W) := by rw [St.swS_0]; exact h
  have HF : Hid (∀ i, i < n → swp (St.swS P A Y B Z i).toArray (a + i) (b + i) = (St.swS P A Y B Z (i + 1)).toArray) := fun i hi => by rw [ha, hb]; exact St.swS_step hA hB hi
  have HS : Hid (∀ i, (St.swS P A Y B Z i).toArray.size = d0.size) := fun i => by rw [List.size_toArray, St.swS_len hA hB, ← hL, hN]
  have HE : Hid (St.swS P A Y B Z n = P ++ (B ++ (Y ++ (A ++ Z)))) := St.swS_n hA hB
  have b1 : (b : Int) + n ≤ N := by omega
  have b2 : (a : Int) + n ≤ b := by omega
  have b3 : (N : Int) ≤ 1000000 := by omega
  have HN : Hid (N = d0.size) := hN
  clear hA hB ha hb hN hL hsz h R
  go_enter Try.func89, Try.ntmps89
  go_wp2_with fail
  go_loopw [10] (fun v wr => ∃ i : Nat, v = .int .i64 i ∧ (i : Int) ≤ n ∧ Hid (SWK enc 8 w0 blk off (St.swS P A Y B Z i).toArray wr)) (fun v _ => n - (intOf v).toNat)
  case atStart => exact ⟨0, rfl, by omega, H0.out⟩
  case round =>
    obtain ⟨i, rfl, hi, HB⟩ := hrel
    by_cases hlt : (i : Int) < n
    · have hin : i < n := by omega
      obtain ⟨I, hI⟩ : ∃ I : Nat, I = a + i := ⟨_, rfl⟩
      obtain ⟨J, hJ⟩ : ∃ J : Nat, J = b + i := ⟨_, rfl⟩
      have zI : IntKind.i64.wrap ((a : Int) + i) = (I : Int) := by rw [IntKind.wrap_i64]; omega
      have zJ : IntKind.i64.wrap ((b : Int) + i) = (J : Int) := by rw [IntKind.wrap_i64]; omega
      have wI : (a : Int) + i = (I : Int) := by omega
      have wJ : (b : Int) + i = (J : Int) := by omega
      have lI : (I : Int) < N := by omega
      have lJ : (J : Int) < N := by omega
      obtain ⟨dk, hdk⟩ : ∃ dk, (St.swS P A Y B Z i).toArray = dk := ⟨_, rfl⟩
      have HF' : Hid (swp dk I J = (St.swS P A Y B Z (i + 1)).toArray) := by rw [hI, hJ, ← hdk]; exact HF.out i hin
      have HS' : Hid (dk.size = d0.size) := by rw [← hdk]; exact HS.out i
      rw [hdk] at HB
      have hId : I < dk.size := by rw [HS'.out, ← HN.out]; omega
      have hJd : J < dk.size := by rw [HS'.out, ← HN.out]; omega
      obtain ⟨xI, hxI⟩ : ∃ x, dk[I]! = x := ⟨_, rfl⟩
      obtain ⟨xJ, hxJ⟩ : ∃ x, dk[J]! = x := ⟨_, rfl⟩
      obtain ⟨cI, hcI⟩ : ∃ c, c = enc xI := ⟨_, rfl⟩
      obtain ⟨cJ, hcJ⟩ : ∃ c, c = enc xJ := ⟨_, rfl⟩
      obtain ⟨k, hk⟩ : ∃ k : Nat, k = 8 := ⟨_, rfl⟩
      have l1 : Sem.run Try.prog (loadCellsFrom ⟨blk, off + I * k, none⟩ 0 k #[]) wr.drew = .ok cI.toArray wr.drew := by rw [hcI, hk, ← hxI]; exact HB.out.ld1 HR.out HS'.out Try.prog I hId
      have l2 : Sem.run Try.prog (loadCellsFrom ⟨blk, off + J * k, none⟩ 0 k #[]) wr.drew = .ok cJ.toArray wr.drew := by rw [hcJ, hk, ← hxJ]; exact HB.out.ld1 HR.out HS'.out Try.prog J hJd
      obtain ⟨W1, hW1⟩ : ∃ W1, W1 = wr.drew.setCells blk (off + I * k) cJ := ⟨_, rfl⟩
      obtain ⟨W2, hW2⟩ : ∃ W2, W2 = W1.setCells blk (off + J * k) cI := ⟨_, rfl⟩
      have s1 : Sem.run Try.prog (storeCells ⟨blk, off + I * k, none⟩ cJ 0) wr.drew = .ok () W1 := by rw [hW1, hcJ, hk]; exact HB.out.st1 HR.out HS'.out Try.prog I hId xJ
      have s2 : Sem.run Try.prog (storeCells ⟨blk, off + J * k, none⟩ cI 0) W1 = .ok () W2 := by rw [hW2, hW1, hcI, hcJ, hk]; exact HB.out.st2 HR.out HS'.out Try.prog I J hId hJd xJ xI
      have HW : Hid (SWK enc 8 w0 blk off (swp dk I J) W2) := by rw [hW2, hW1, hcI, hcJ, hk, ← hxI, ← hxJ]; exact HB.out.swapped HR.out I J hId hJd
      have e1 : cI.length = k := by rw [hcI, hk]; exact HR.out.hk _
      have e2 : cJ.length = k := by rw [hcJ, hk]; exact HR.out.hk _
      have aE : ∀ w, (isAgg 55).run Try.prog w = .ok true w := Try.isAgg55
      have zE : ∀ w, (Go.sizeOf 55).run Try.prog w = .ok k w := by rw [hk]; exact Try.sizeOf55
      clear hI hJ hdk hId hJd hxI hxJ HS' HB hcI hcJ hk hW1 hW2
      go_wp2_with fail
      have mixed : Try.prog.follows .mixedOrders = true := by kernel_rfl
      go_big_region_o
      all_goals
        go_wp2_with fail
        go_roundw
        case rel => exact ⟨i + 1, by go_num, by omega, by rw [← HF'.out]; exact HW.out⟩
        case measure => simp [intOf]; omega
    · have hin : i = n := by omega
      subst hin
      go_wp2_with fail
      go_end0
      exact ⟨rfl, by rw [← HE.out]; exact HB.out⟩
end Go.Proofs.Ytdlipponajilbaa
