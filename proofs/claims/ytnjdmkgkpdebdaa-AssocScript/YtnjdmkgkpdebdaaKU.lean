/- assoc: what Route says, in plain words; unknown; tables within a law. -/
import Derived.Test.YtnjdmkgkpdebdaaKS
namespace Go.Proofs.Ytnjdmkgkpdebdaa
open Go Go.RowKit Go.Sort
set_option linter.unusedVariables false
theorem Tb.ids {w : World} {q : Nat} {ms : List (Option Mb)} (h : Tb w q ms) : ∀ (i : Nat) m, ms[i]? = some (some m) → m.id = (i : Int) + 1 := fun i m hm => (h.mem i m hm).2.2
/-- who is found stands under his number -/
theorem fsF_at {p : Mb → Bool} : ∀ {ms : List (Option Mb)}, fsF p ms ≠ 0 → ∃ (i : Nat) (m : Mb), ms[i]? = some (some m) ∧ fsF p ms = m.id ∧ p m = true
  | [], h => absurd rfl h
  | none :: t, h => by
    rw [fsF] at h ⊢
    obtain ⟨i, m, h1, h2, h3⟩ := fsF_at h
    exact ⟨i + 1, m, by simpa using h1, h2, h3⟩
  | some n :: t, h => by
    rw [fsF] at h ⊢
    split
    · rename_i hp
      exact ⟨0, n, rfl, rfl, hp⟩
    · rename_i hp
      rw [if_neg hp] at h
      obtain ⟨i, m, h1, h2, h3⟩ := fsF_at h
      exact ⟨i + 1, m, by simpa using h1, h2, h3⟩
theorem fs_atM {p : Mb → Bool} {ms : List (Option Mb)} (hl : ms.length = 16) (hid : ∀ (i : Nat) m, ms[i]? = some (some m) → m.id = (i : Int) + 1) (h : fsF p ms ≠ 0) : ∃ m, atM ms (fsF p ms) = some m ∧ p m = true := by
  obtain ⟨i, m, h1, h2, h3⟩ := fsF_at h
  have hi : i < 16 := by
    rcases Nat.lt_or_ge i 16 with h' | h'
    · exact h'
    · rw [List.getElem?_eq_none (by omega)] at h1; cases h1
  refine ⟨m, ?_, h3⟩
  rw [h2, hid i m h1, atM_at i hi]
  exact at0_some.2 h1
theorem atM_zero (ms : List (Option Mb)) : atM ms 0 = none := by unfold atM; rw [if_neg (by omega)]
theorem ds_two {k m : Int} (h : dsN k m = 2) : k ≠ 0 := by
  rintro rfl
  revert h
  unfold dsN
  repeat' split
  all_goals simp_all
theorem ds_one {k m : Int} (h : dsN k m = 1) : m = 3 := by
  revert h
  unfold dsN
  repeat' split
  all_goals simp_all
theorem ds_new {k m : Int} (h : dsN k m = 3 ∨ dsN k m = 4 ∨ dsN k m = 5) : k = 0 := by
  revert h
  unfold dsN
  repeat' split
  all_goals simp_all
theorem fr_rows {ms : List (Option Mb)} (hl : ms.length = 16) (h : frF ms 0 ≠ 0) : (rowsOf ms).length < 16 := by
  rcases frF_spec ms 0 with ⟨h1, _⟩ | ⟨i, _, h2, _⟩
  · exact absurd h1 h
  · have hi : i < ms.length := by
      rcases Nat.lt_or_ge i ms.length with h' | h'
      · exact h'
      · rw [List.getElem?_eq_none h'] at h2; cases h2
    have e : ms[i] = none := by rw [List.getElem?_eq_getElem hi] at h2; exact Option.some.inj h2
    have h3 : ms = ms.take i ++ ms[i] :: ms.drop (i + 1) := by rw [← List.drop_eq_getElem_cons hi, List.take_append_drop]
    have h4 : rowsOf ms = rowsOf (ms.take i) ++ rowsOf (ms.drop (i + 1)) := by
      unfold rowsOf
      conv => lhs; rw [h3, e]
      rw [List.filterMap_append]
      rfl
    have h5 := rows_len (ms.take i)
    have h6 := rows_len (ms.drop (i + 1))
    rw [h4, List.length_append]
    rw [List.length_take] at h5
    rw [List.length_drop] at h6
    omega
/-- a group's address, or nobody's -/
def grB (a : Int) : Bool := decide (a / 268435456 = 14) || decide (a = 0) || decide (a = 4294967295)
theorem sg_gr {a : Int} (h : sgB a = true) : grB a = false := by
  unfold sgB mnB at h
  unfold grB
  simp at h ⊢
  omega
/-- what is said of a packet's way -/
def Rw (ms : List (Option Mb)) (auth : Bool) (mode frm nos npe ntr : Int) (a n : Int) : Prop :=
  (a = 0 ∧ n = 0) ∨
  (n = 0 ∧ (a = 1 ∨ a = 6) ∧ nos = 0 ∧ grB frm = false ∧ mode = 3) ∨
  (a = 2 ∧ ∃ m, atM ms n = some m ∧ m.ac.addr = frm ∧ m.ac.kind ≠ 6 ∧ dsN m.ac.kind mode = 2) ∨
  (n = 0 ∧ (a = 3 ∨ a = 4) ∧ npe = 0 ∧ (auth = true ∨ ntr = 0) ∧ kdI ms (fsF (nkP frm false) ms) = 0 ∧ (rowsOf ms).length < 16) ∨
  (a = 5 ∧ ∃ m, atM ms n = some m ∧ (m.ac.kind = 4 ∨ m.ac.kind = 5) ∧ npe = 0 ∧ (auth = true ∨ ntr = 0) ∧ kdI ms (fsF (nkP frm false) ms) = 0 ∧ (rowsOf ms).length < 16)
theorem Rw.no {ms : List (Option Mb)} {auth : Bool} {mode frm nos npe ntr : Int} : Rw ms auth mode frm nos npe ntr 0 0 := .inl ⟨rfl, rfl⟩
theorem Rw.answer {ms : List (Option Mb)} {auth : Bool} {mode frm nos npe ntr : Int} (a : Int) (h1 : a = 1 ∨ a = 6) (h2 : nos = 0) (h3 : grB frm = false) (h4 : mode = 3) : Rw ms auth mode frm nos npe ntr a 0 := .inr (.inl ⟨rfl, h1, h2, h3, h4⟩)
theorem Rw.process {ms : List (Option Mb)} {auth : Bool} {mode frm nos npe ntr : Int} (n : Int) (m : Mb) (h1 : atM ms n = some m) (h2 : m.ac.addr = frm) (h3 : m.ac.kind ≠ 6) (h4 : dsN m.ac.kind mode = 2) : Rw ms auth mode frm nos npe ntr 2 n := .inr (.inr (.inl ⟨rfl, m, h1, h2, h3, h4⟩))
theorem Rw.fresh {ms : List (Option Mb)} {auth : Bool} {mode frm nos npe ntr : Int} (a : Int) (h1 : a = 3 ∨ a = 4) (h2 : npe = 0) (h3 : auth = true ∨ ntr = 0) (h4 : kdI ms (fsF (nkP frm false) ms) = 0) (h5 : (rowsOf ms).length < 16) : Rw ms auth mode frm nos npe ntr a 0 := .inr (.inr (.inr (.inl ⟨rfl, h1, h2, h3, h4, h5⟩)))
theorem Rw.found {ms : List (Option Mb)} {auth : Bool} {mode frm nos npe ntr : Int} (n : Int) (m : Mb) (h1 : atM ms n = some m) (h2 : m.ac.kind = 4 ∨ m.ac.kind = 5) (h3 : npe = 0) (h4 : auth = true ∨ ntr = 0) (h5 : kdI ms (fsF (nkP frm false) ms) = 0) (h6 : (rowsOf ms).length < 16) : Rw ms auth mode frm nos npe ntr 5 n := .inr (.inr (.inr (.inr ⟨rfl, m, h1, h2, h3, h4, h5, h6⟩)))
theorem rw_of {ms : List (Option Mb)} (hl : ms.length = 16) (hid : ∀ (i : Nat) m, ms[i]? = some (some m) → m.id = (i : Int) + 1) (ls mc auth : Bool) (mode frm to nos npe ntr : Int) :
    Rw ms auth mode frm nos npe ntr (rtA ms ls mc auth mode frm to nos npe ntr) (rtI ms auth mode frm npe ntr) := by
  obtain ⟨D, hD⟩ : ∃ D, rtN ms mode frm = D := ⟨_, rfl⟩
  have hmm : mmB ms auth npe ntr = true → npe = 0 ∧ (auth = true ∨ ntr = 0) ∧ (rowsOf ms).length < 16 := fun h => by
    unfold mmB at h
    simp only [Bool.and_eq_true, Bool.or_eq_true, decide_eq_true_eq] at h
    exact ⟨h.1.2, h.1.1, fr_rows hl h.2⟩
  unfold rtA rtI
  rw [hD]
  by_cases h2 : D = 2
  · rw [if_pos h2, if_pos h2]
    subst h2
    unfold rtN at hD
    have hk := ds_two hD
    have hne : fsF (nkP frm false) ms ≠ 0 := fun e => by rw [e] at hk; exact hk (by unfold kdI; rw [atM_zero])
    obtain ⟨m, h1, h3⟩ := fs_atM hl hid hne
    unfold nkP at h3
    simp only [Bool.and_eq_true, decide_eq_true_eq, beq_iff_eq, decide_eq_false_iff_not] at h3
    refine .process _ m h1 h3.1 h3.2 ?_
    unfold kdI at hD
    rw [h1] at hD
    exact hD
  rw [if_neg h2, if_neg h2]
  by_cases h1 : D = 1
  · subst h1
    rw [if_pos rfl, if_neg (by decide)]
    have hm := ds_one hD
    unfold anI
    split
    · exact .no
    · rename_i hn
      split
      · exact .no
      · rename_i hs
        have hs : sgB frm = true := by simpa using hs
        have hn : nos = 0 := by simpa using hn
        split
        · exact .answer 1 (.inl rfl) hn (sg_gr hs) hm
        · split
          · exact .answer 6 (.inr rfl) hn (sg_gr hs) hm
          · exact .no
  rw [if_neg h1]
  by_cases h3 : D = 3
  · subst h3
    rw [if_pos rfl, if_neg (show ¬ (3 : Int) = 5 by decide)]
    split
    · rename_i h
      simp only [Bool.and_eq_true] at h
      obtain ⟨a, b, c⟩ := hmm h.1
      exact .fresh 3 (.inl rfl) a b (ds_new (.inl hD)) c
    · exact .no
  rw [if_neg h3]
  by_cases h4 : D = 4
  · subst h4
    rw [if_pos rfl, if_neg (show ¬ (4 : Int) = 5 by decide)]
    split
    · rename_i h
      simp only [Bool.and_eq_true] at h
      obtain ⟨a, b, c⟩ := hmm h.1
      exact .fresh 4 (.inr rfl) a b (ds_new (.inr (.inl hD))) c
    · exact .no
  rw [if_neg h4]
  by_cases h5 : D = 5
  · subst h5
    rw [if_pos rfl, if_pos rfl]
    split
    · rename_i h
      simp only [Bool.and_eq_true, decide_eq_true_eq] at h
      obtain ⟨a, b, c⟩ := hmm h.1
      obtain ⟨m, k1, k2⟩ := fs_atM hl hid h.2
      exact .found _ m k1 (by unfold srB at k2; simpa using k2) a b (ds_new (.inr (.inr hD))) c
    · exact .no
  · rw [if_neg h5, if_neg h5]
    exact .no
theorem get_at {ms : List (Option Mb)} {id : Int} {m : Mb} (h : atM ms id = some m) : geM ms id = m ∧ (atM ms id).isSome = true := by unfold geM; rw [h]; exact ⟨rfl, rfl⟩
/-- is an address unknown -/
def ukB (ms : List (Option Mb)) (frm : Int) : Bool := decide (kdI ms (fsF (nkP frm false) ms) = 0)
set_option maxRecDepth 20000 in
set_option maxHeartbeats 1000000 in
theorem unknown_any (q : Nat) (ms : List (Option Mb)) (frm : Int) (w : World) (h : Tb w q ms) : Calls Try.prog 20 #[.pointer (some ⟨q, 0, none⟩), .int .u32 frm] w fun e w' => e = .returned (.bool (ukB ms frm)) ∧ Below w.heap.size w w' := by
  have HT : Hid (Tb w q ms) := h
  clear h
  unfold ukB
  obtain ⟨I, hI⟩ : ∃ I, fsF (nkP frm false) ms = I := ⟨_, rfl⟩
  have CF : Hid (Calls Try.prog 34 #[.pointer (some ⟨q, 0, none⟩), .int .u32 frm] w fun e w' => e = .returned (.int .i64 I) ∧ Below w.heap.size w w') := by rw [← hI]; exact find_any q ms frm w HT.out
  rw [hI]
  clear hI
  obtain ⟨x, hx⟩ : ∃ x, atM ms I = x := ⟨_, rfl⟩
  have HK : Hid (kdI ms I = (x.map (fun m => m.ac.kind)).getD 0) := by
    show _ = _
    unfold kdI
    rw [hx]
    cases x <;> rfl
  have CG : Hid (∀ u, Tb u q ms → Calls Try.prog 18 #[.pointer (some ⟨q, 0, none⟩), .int .i64 I] u fun e w' => e = .returned (.tuple #[.agg (enL (x.getD zMb)).toArray, .bool x.isSome]) ∧ Below u.heap.size u w') := fun u hu => by
    have := get_any q ms I u hu
    unfold geM at this
    rw [hx] at this
    exact this
  clear hx
  obtain ⟨m, hm⟩ : ∃ m, x.getD zMb = m := ⟨_, rfl⟩
  rw [hm] at CG
  have HM : Hid (x.getD zMb = m) := hm
  clear hm
  obtain ⟨i, hi⟩ : ∃ i, x.isSome = i := ⟨_, rfl⟩
  rw [hi] at CG
  have HX : Hid (x.isSome = i) := hi
  clear hi
  go_enter Try.func20, Try.ntmps20
  refine post_hid fun Q hQ => ?_
  go_upto_region 2 with (first
    | (go_at_call 34; refine CF.out.mono ?_; rintro e w1 ⟨rfl, hb1⟩; have H1 : Hid (Tb w1 q ms ∧ Below w.heap.size w w1) := ⟨HT.out.below hb1, hb1⟩; clear hb1)
    | (go_at_call 18; refine (CG.out w1 H1.out.1).mono ?_; rintro e w2 ⟨rfl, hb2⟩; have H2 : Hid (Below w.heap.size w w2) := below_thru H1.out.2 hb2; clear hb2)
    | (refine step_alL (by rfl) 62 rfl (enL zMb).toArray (fun u => by kernel_rfl) ?_; intro w3 g H3)
    | (refine step_stL (by rfl) _ _ rfl g (enL m).toArray (by rfl) (by rfl) (enL zMb).toArray (by kernel_rfl) (by kernel_rfl) (by kernel_rfl) H3.out.bk ?_; intro w4 H4))
  have H5 : Hid (Below w.heap.size w w4) := below_thru H2.out (H4.out.below H3.out.be H3.out.be.size (Nat.le_of_eq H3.out.at'.symm))
  have c1 : w4.cell? ⟨g, 1, none⟩ = some (.int .i64 m.ac.kind) := H4.out.bk.cell 1
  clear H1 H2 H3 H4
  cases i
  · have HN : Hid (kdI ms I = 0) := by
      have := HX.out
      cases x with
      | none => exact HK.out
      | some y => cases this
    go_wp2_with fail
    rw [hQ.out]
    go_ret
    exact ⟨ret_bool' (by rw [HN.out]; rfl), H5.out⟩
  · have HN : Hid (kdI ms I = m.ac.kind) := by
      have h1 := HX.out
      have h2 := HM.out
      cases x with
      | none => cases h1
      | some y => simp at h2; subst h2; exact HK.out
    go_wp2_with fail
    rw [hQ.out]
    go_ret
    exact ⟨ret_bool' (by rw [HN.out, Bool.eq_iff_iff]; simp), H5.out⟩
end Go.Proofs.Ytnjdmkgkpdebdaa
