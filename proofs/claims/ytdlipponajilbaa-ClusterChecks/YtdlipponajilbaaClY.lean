/- slices.SortStableFunc at candidates with their merits. -/
import Derived.Test.YtdlipponajilbaaClX
import Derived.Test.YtdlipponajilbaaShelfI
namespace Go.Proofs.Ytdlipponajilbaa
open Go Go.RowKit Go.Sort Go.Shelf Go.Lib Go.Proofs
set_option linter.unusedVariables false
variable {α : Type} [Inhabited α] {enc : α → List Value} {w0 : World} {blk off : Nat} {d0 : Array α}
theorem isAggRt : ∀ w, (isAgg (Try.insRt_ren.t 24)).run Try.prog w = .ok true w := Try.isAgg55
theorem sizeRt : ∀ w, (Go.sizeOf (Try.insRt_ren.t 24)).run Try.prog w = .ok 8 w := Try.sizeOf55
/-- what is asked of the comparison: in whatever world -/
def CmpAny (cf : α → α → Int) (enc : α → List Value) : Prop := ∀ (x y : α) (W : World), Calls Try.prog 40 #[.agg (enc x).toArray, .agg (enc y).toArray] W fun e w' => e = .returned (.int .i64 (cf x y)) ∧ ∃ q os', w' = grow (W.drewN q) os'
theorem CmpAny.lays {cf : α → α → Int} (h : CmpAny cf enc) (size : Nat) (w : World) : CmpLays Try.prog 40 #[] enc 8 cf blk off size w := fun m os dk _ x y => by
  have := h x y (sortWorldK enc 8 w blk off m dk os)
  simpa using this
theorem ins_any (R : RowK enc 8 w0 blk off d0) (cf : α → α → Int) (hS : SWO (ltOf cf)) (hC : CmpAny cf enc) (X L Z : List α) (N cap a b : Nat) (x y : Int) (W : World) (hx : x = a) (hy : y = b) (ha : a = X.length) (hb : b = X.length + L.length) (hN : N = d0.size) (hL : N = b + Z.length) (hsz : N ≤ 1000000) (h : SWK enc 8 w0 blk off (X ++ (L ++ Z)).toArray W) :
    Calls Try.prog 80 #[.slice (some ⟨blk, off, none⟩) N cap, .int .i64 x, .int .i64 y, .func (.func 40) #[] #[]] W fun e w' => e = .returned (.tuple #[]) ∧ Hid (SWK enc 8 w0 blk off (X ++ (St.st (ltOf cf) L ++ Z)).toArray w') := by
  subst hx hy
  have hs : (X ++ (L ++ Z)).toArray.size = N := by simp; omega
  have hcon := Proofs.AnyQ.insertionSortCmpFunc Try.insRt 8 isAggRt sizeRt enc R.hk R.h1 cf 40 #[] blk off cap a b (X ++ (L ++ Z)).toArray W enters_g (hC.lays _ _) (h.holds R.hblk R.hH (by omega)) (h.lt R.hblk) (by omega) (by omega) (by omega)
  change Calls Try.prog 80 _ _ _ at hcon
  rw [hs] at hcon
  refine hcon.mono ?_
  rintro e w' ⟨rfl, n, os, rfl⟩
  refine ⟨rfl, ?_⟩
  rw [St.ins_st hS X L Z a b ha hb]
  exact h.on R.hblk n _ os (by simp [St.st_len])
set_option maxHeartbeats 2000000 in
set_option maxRecDepth 20000 in
theorem stable_any (R : RowK enc 8 w0 blk off d0) (cf : α → α → Int) (hS : SWO (ltOf cf)) (hC : CmpAny cf enc) (l : List α) (N cap : Nat) (hl : l.length = N) (hN : N = d0.size) (hsz : N ≤ 1000000) (W : World) (h : SWK enc 8 w0 blk off l.toArray W) :
    Calls Try.prog 62 #[.slice (some ⟨blk, off, none⟩) N cap, .int .i64 (N : Int), .func (.func 40) #[] #[]] W fun e w' => e = .returned (.tuple #[]) ∧ Hid (SWK enc 8 w0 blk off (St.st (ltOf cf) l).toArray w') := by
  have IC : Hid (∀ (X L Z : List α) (a b : Nat) (x y : Int) (W : World), x = a → y = b → a = X.length → b = X.length + L.length → N = b + Z.length → SWK enc 8 w0 blk off (X ++ (L ++ Z)).toArray W → Calls Try.prog 80 #[.slice (some ⟨blk, off, none⟩) N cap, .int .i64 x, .int .i64 y, .func (.func 40) #[] #[]] W fun e w' => e = .returned (.tuple #[]) ∧ Hid (SWK enc 8 w0 blk off (X ++ (St.st (ltOf cf) L ++ Z)).toArray w')) := fun X L Z a b x y W h1 h2 h3 h4 h5 h6 => ins_any R cf hS hC X L Z N cap a b x y W h1 h2 h3 h4 hN h5 hsz h6
  have SC : Hid (∀ (P U V Z : List α) (a m b : Nat) (x y z : Int) (W : World), x = a → y = m → z = b → a = P.length → m = a + U.length → b = m + V.length → 0 < U.length → 0 < V.length → St.So (ltOf cf) U → St.So (ltOf cf) V → N = b + Z.length → SWK enc 8 w0 blk off (P ++ (U ++ (V ++ Z))).toArray W → Calls Try.prog 81 #[.slice (some ⟨blk, off, none⟩) N cap, .int .i64 x, .int .i64 y, .int .i64 z, .func (.func 40) #[] #[]] W fun e w' => e = .returned (.tuple #[]) ∧ Hid (SWK enc 8 w0 blk off (P ++ (St.mg (ltOf cf) U V ++ Z)).toArray w')) := fun P U V Z a m b x y z W => sym_any R cf hS (hC.lays _ _) N cap hN hsz _ P U V Z a m b x y z W (Nat.le_refl _)
  have HL : Hid (l.length = N ∧ SWO (ltOf cf)) := ⟨hl, hS⟩
  have H0 : Hid (SWK enc 8 w0 blk off l.toArray W) := h
  have z1 : (N : Int) ≤ 1000000 := by omega
  clear R hS hC hl hN hsz h
  go_enter Try.func62, Try.ntmps62
  go_wp2_with fail
  go_loopw [7, 8] (fun v u wr => ∃ (a : Nat), v = .int .i64 a ∧ u = .int .i64 ((a : Int) + 20) ∧ (a : Int) ≤ N ∧ Hid (∃ M, M.length = a ∧ St.Df (ltOf cf) 20 l = M ++ St.Df (ltOf cf) 20 (l.drop a) ∧ SWK enc 8 w0 blk off (M ++ l.drop a).toArray wr)) (fun v _ _ => N - (intOf v).toNat)
  case atStart => exact ⟨0, rfl, rfl, by omega, ⟨[], rfl, rfl, H0.out⟩⟩
  case round =>
    obtain ⟨a, rfl, rfl, ha, HB⟩ := hrel
    by_cases hlt : (a : Int) + 20 ≤ N
    · have CC : Hid (Calls Try.prog 80 #[.slice (some ⟨blk, off, none⟩) N cap, .int .i64 (a : Int), .int .i64 ((a : Int) + 20), .func (.func 40) #[] #[]] wr fun e w' => e = .returned (.tuple #[]) ∧ Hid (∃ M, M.length = a + 20 ∧ St.Df (ltOf cf) 20 l = M ++ St.Df (ltOf cf) 20 (l.drop (a + 20)) ∧ SWK enc 8 w0 blk off (M ++ l.drop (a + 20)).toArray w')) := by
        obtain ⟨M, h1, h2, h3⟩ := HB.out
        have hl := HL.out.1
        have e1 : (l.drop a).take 20 ++ l.drop (a + 20) = l.drop a := by rw [← List.drop_drop]; exact List.take_append_drop _ _
        refine (IC.out M ((l.drop a).take 20) (l.drop (a + 20)) a (a + 20) _ _ wr rfl (by omega) h1.symm (by rw [h1, List.length_take, List.length_drop]; omega) (by rw [List.length_drop]; omega) (by rw [e1]; exact h3)).mono ?_
        rintro e w' ⟨rfl, h5⟩
        refine ⟨rfl, M ++ St.st (ltOf cf) ((l.drop a).take 20), by rw [List.length_append, St.st_len, h1, List.length_take, List.length_drop]; omega, ?_, ?_⟩
        · rw [h2, St.Df_step _ (by omega) (l.drop a), List.drop_drop, List.append_assoc]
        · rw [List.append_assoc]; exact h5.out
      go_wp2_with (go_at_call 80; refine CC.out.mono ?_; rintro e w2 ⟨rfl, H2⟩)
      go_roundw
      case rel => exact ⟨a + 20, by go_num, by go_num, by omega, H2.out⟩
      case measure => simp [intOf]; omega
    · have CC : Hid (Calls Try.prog 80 #[.slice (some ⟨blk, off, none⟩) N cap, .int .i64 (a : Int), .int .i64 (N : Int), .func (.func 40) #[] #[]] wr fun e w' => e = .returned (.tuple #[]) ∧ Hid (SWK enc 8 w0 blk off (St.Df (ltOf cf) 20 l).toArray w')) := by
        obtain ⟨M, h1, h2, h3⟩ := HB.out
        have hl := HL.out.1
        refine (IC.out M (l.drop a) [] a N _ _ wr rfl rfl h1.symm (by rw [h1, List.length_drop]; omega) (by simp) (by rw [List.append_nil]; exact h3)).mono ?_
        rintro e w' ⟨rfl, h5⟩
        refine ⟨rfl, ?_⟩
        rw [h2, St.Df_all _ (by omega) (by rw [List.length_drop]; omega)]
        have := h5.out
        rw [List.append_nil] at this
        exact this
      go_wp2_with (go_at_call 80; refine CC.out.mono ?_; rintro e w2 ⟨rfl, H2⟩)
      clear CC HB
      go_loopw [6, 7, 8, 9] (fun v _ _ _ wq => ∃ (s : Nat), v = .int .i64 s ∧ (20 : Int) ≤ s ∧ (s : Int) ≤ 4000000 ∧ Hid (SWK enc 8 w0 blk off (St.Df (ltOf cf) s l).toArray wq)) (fun v _ _ _ _ => N - (intOf v).toNat)
      case atStart => exact ⟨20, rfl, by omega, by omega, H2.out⟩
      case round =>
        obtain ⟨s, rfl, hs20, hsm, HQ⟩ := hrel
        by_cases hsn : (s : Int) < N
        · have hs0 : 0 < s := by omega
          have HS0 : Hid (0 < s) := hs0
          clear hs0
          go_wp2_with fail
          go_loopw [7, 8] (fun v u wr => ∃ (a : Nat), v = .int .i64 a ∧ u = .int .i64 ((a : Int) + 2 * s) ∧ (a : Int) ≤ N ∧ Hid (∃ M, M.length = a ∧ St.Df (ltOf cf) (2 * s) l = M ++ St.Df (ltOf cf) (2 * s) (l.drop a) ∧ SWK enc 8 w0 blk off (M ++ St.Df (ltOf cf) s (l.drop a)).toArray wr)) (fun v _ _ => N - (intOf v).toNat)
          case atStart => exact ⟨0, rfl, by go_num, by omega, ⟨[], rfl, rfl, HQ.out⟩⟩
          case round =>
            obtain ⟨a, rfl, rfl, ha, HB⟩ := hrel
            by_cases hlt : (a : Int) + 2 * s ≤ N
            · have CC : Hid (Calls Try.prog 81 #[.slice (some ⟨blk, off, none⟩) N cap, .int .i64 (a : Int), .int .i64 ((a : Int) + s), .int .i64 ((a : Int) + 2 * s), .func (.func 40) #[] #[]] wr fun e w' => e = .returned (.tuple #[]) ∧ Hid (∃ M, M.length = a + 2 * s ∧ St.Df (ltOf cf) (2 * s) l = M ++ St.Df (ltOf cf) (2 * s) (l.drop (a + 2 * s)) ∧ SWK enc 8 w0 blk off (M ++ St.Df (ltOf cf) s (l.drop (a + 2 * s))).toArray w')) := by
                obtain ⟨M, h1, h2, h3⟩ := HB.out
                have hl := HL.out.1
                have hs := HS0.out
                have e1 : St.Df (ltOf cf) s (l.drop a) = St.st (ltOf cf) ((l.drop a).take s) ++ (St.st (ltOf cf) (((l.drop a).drop s).take s) ++ St.Df (ltOf cf) s (l.drop (a + 2 * s))) := by
                  rw [St.Df_step _ hs (l.drop a), St.Df_step _ hs ((l.drop a).drop s), List.drop_drop, List.drop_drop, show a + s + s = a + 2 * s from by omega]
                have e2 : St.Df (ltOf cf) (2 * s) (l.drop a) = St.st (ltOf cf) ((l.drop a).take (2 * s)) ++ St.Df (ltOf cf) (2 * s) (l.drop (a + 2 * s)) := by
                  rw [St.Df_step _ (by omega) (l.drop a), List.drop_drop]
                rw [e1] at h3
                refine (SC.out M _ _ _ a (a + s) (a + 2 * s) _ _ _ wr rfl (by omega) (by omega) h1.symm (by rw [St.st_len, List.length_take, List.length_drop]; omega) (by rw [St.st_len, List.length_take, List.length_drop, List.length_drop]; omega) (by rw [St.st_len, List.length_take, List.length_drop]; omega) (by rw [St.st_len, List.length_take, List.length_drop, List.length_drop]; omega) (St.st_so HL.out.2 _) (St.st_so HL.out.2 _) (by rw [St.Df_len _ hs, List.length_drop]; omega) h3).mono ?_
                rintro e w' ⟨rfl, h5⟩
                refine ⟨rfl, M ++ St.st (ltOf cf) ((l.drop a).take (2 * s)), by rw [List.length_append, St.st_len, h1, List.length_take, List.length_drop]; omega, ?_, ?_⟩
                · rw [h2, e2, List.append_assoc]
                · have h6 := h5.out
                  rw [St.st_two HL.out.2] at h6
                  rw [List.append_assoc]; exact h6
              go_wp2_with (go_at_call 81; refine CC.out.mono ?_; rintro e w4 ⟨rfl, H4⟩)
              go_roundw
              case rel => exact ⟨a + 2 * s, by go_num, by go_num, by omega, H4.out⟩
              case measure => simp [intOf]; omega
            · have hlt2 : ¬ ((a : Int) + 2 * s) ≤ N := hlt
              by_cases hm : (a : Int) + s < N
              · have CC : Hid (Calls Try.prog 81 #[.slice (some ⟨blk, off, none⟩) N cap, .int .i64 (a : Int), .int .i64 ((a : Int) + s), .int .i64 (N : Int), .func (.func 40) #[] #[]] wr fun e w' => e = .returned (.tuple #[]) ∧ Hid (SWK enc 8 w0 blk off (St.Df (ltOf cf) (2 * s) l).toArray w')) := by
                  obtain ⟨M, h1, h2, h3⟩ := HB.out
                  have hl := HL.out.1
                  have hs := HS0.out
                  have e0 : ((l.drop a).drop s).take s = (l.drop a).drop s := List.take_of_length_le (by rw [List.length_drop, List.length_drop]; omega)
                  have e1 : St.Df (ltOf cf) s (l.drop a) = St.st (ltOf cf) ((l.drop a).take s) ++ (St.st (ltOf cf) (((l.drop a).drop s).take s) ++ []) := by
                    rw [St.Df_step _ hs (l.drop a), St.Df_all _ hs (by rw [List.length_drop, List.length_drop]; omega), e0, List.append_nil]
                  have e2 : St.Df (ltOf cf) (2 * s) (l.drop a) = St.st (ltOf cf) ((l.drop a).take (2 * s)) := by
                    rw [St.Df_all _ (by omega) (by rw [List.length_drop]; omega), List.take_of_length_le (by rw [List.length_drop]; omega)]
                  rw [e1] at h3
                  refine (SC.out M _ _ _ a (a + s) N _ _ _ wr rfl (by omega) rfl h1.symm (by rw [St.st_len, List.length_take, List.length_drop]; omega) (by rw [St.st_len, List.length_take, List.length_drop, List.length_drop]; omega) (by rw [St.st_len, List.length_take, List.length_drop]; omega) (by rw [St.st_len, List.length_take, List.length_drop, List.length_drop]; omega) (St.st_so HL.out.2 _) (St.st_so HL.out.2 _) (by simp) h3).mono ?_
                  rintro e w' ⟨rfl, h5⟩
                  refine ⟨rfl, ?_⟩
                  have h6 := h5.out
                  rw [St.st_two HL.out.2, List.append_nil] at h6
                  rw [h2, e2]; exact h6
                go_wp2_with (go_at_call 81; refine CC.out.mono ?_; rintro e w4 ⟨rfl, H4⟩)
                go_roundw
                case rel => exact ⟨2 * s, by go_num, by omega, by omega, H4.out⟩
                case measure => simp [intOf]; omega
              · have H4 : Hid (SWK enc 8 w0 blk off (St.Df (ltOf cf) (2 * s) l).toArray wr) := by
                  obtain ⟨M, h1, h2, h3⟩ := HB.out
                  have hl := HL.out.1
                  have hs := HS0.out
                  rw [St.Df_all _ hs (by rw [List.length_drop]; omega)] at h3
                  rw [h2, St.Df_all _ (by omega) (by rw [List.length_drop]; omega)]
                  exact h3
                go_wp2_with fail
                go_roundw
                case rel => exact ⟨2 * s, by go_num, by omega, by omega, H4.out⟩
                case measure => simp [intOf]; omega
        · have HF : Hid (St.Df (ltOf cf) s l = St.st (ltOf cf) l) := St.Df_all _ (by omega) (by have := HL.out.1; omega)
          go_wp2_with fail
          go_end0
          exact ⟨rfl, by rw [← HF.out]; exact HQ.out⟩
theorem sortStable_any (R : RowK enc 8 w0 blk off d0) (cf : α → α → Int) (hS : SWO (ltOf cf)) (hC : CmpAny cf enc) (l : List α) (N cap : Nat) (hl : l.length = N) (hN : N = d0.size) (hsz : N ≤ 1000000) (W : World) (h : SWK enc 8 w0 blk off l.toArray W) :
    Calls Try.prog 39 #[.slice (some ⟨blk, off, none⟩) N cap, .func (.func 40) #[] #[]] W fun e w' => e = .returned (.tuple #[]) ∧ Hid (SWK enc 8 w0 blk off (St.st (ltOf cf) l).toArray w') := by
  have HC : Hid (Calls Try.prog 62 #[.slice (some ⟨blk, off, none⟩) N cap, .int .i64 (N : Int), .func (.func 40) #[] #[]] W fun e w' => e = .returned (.tuple #[]) ∧ Hid (SWK enc 8 w0 blk off (St.st (ltOf cf) l).toArray w')) := stable_any R cf hS hC l N cap hl hN hsz W h
  clear R hS hC hl hN hsz h
  go_enter Try.func39, Try.ntmps39
  go_wp2_with (go_at_call 62; refine HC.out.mono ?_; rintro e w2 ⟨rfl, H2⟩)
  go_end0
  exact ⟨rfl, H2.out⟩
end Go.Proofs.Ytdlipponajilbaa
